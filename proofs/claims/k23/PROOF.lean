import PyProof.Rows.All
import Wide.All
import OpenK.AllK
import Wide.FinOn
import HandS.ForMost
import HandS.ForExc
import HandS.ExcCtx
import HandS.HotCalls
import HandS.Defaults
import HandS.Ends
import HandS.HeadEnd
import HandS.Style
import HandS.ExcInit
import HandS.MakeKwOnly
import HandS.MakeKw
import HandS.Zip
import HandS.OwnEq
import HandS.CallSlots
import HandS.SlotsOwn
import HandS.Property
import HandS.IsInst
import HandS.HeadHook1
import HandS.HeadHook2
import HandS.Deep
import HandS.DeepEq
import HandS.Wide
import HandS.Walk
import HandS.Flow
import HandS.Strs
import HandS.ExcInitHot
import KE.KExcIs
import HandS.ExcIs
import HandS.ExcField
import HandS.Exc
import HandS.Sort
import HandS.TryOnly
import HandS.TryMany
import KE.KOwnIter
import KE.KDictIter
import HandS.IterVal
import HandS.TupAny
import HandS.Head0
import HandS.Head1
import HandS.Head2
import HandS.EndBits
import KE.SortData
import KE.SortCalls
import HandS.List
import HandS.SetFor
import HandS.ClsMeth
import HandS.TupSets
import HandS.SortOrd
import HandS.NamedTupSort
import KE.SortKeyHeap
import KE.KSortKey
import PySem.Challenge.RW_greatestback_k23_unmade_rows
set_option Elab.async false
set_option linter.all false
set_option maxRecDepth 100000
set_option maxHeartbeats 4000000
namespace Den
open PySem PySem.Spec PyProof.Rows L2
abbrev Takes (X : Cx) (W : WX) : Prop := L2N.Takes X W
theorem tk0 {X : Cx} : Takes X (fun _ _ _ _ => False) := fun _ _ ⟨_, _, _, _, _, _, _, _, _, _, _, _, _, _, _, _, z⟩ => z.elim
theorem passAt {X : Cx} {W : WX} (tk : Takes X W) (σ : L2.St) : PassesAt (L2N.CX X.prog X.w) X σ (WE W σ) := L2N.passAt tk σ
theorem passL {X : Cx} : Passes (L2N.CX X.prog X.w) X E0 := fun _ _ _ _ _ _ _ h => by
  obtain ⟨_, _, _, _, _, _, _, _, _, _, _, _, z⟩ := h
  exact z.elim
inductive D where
  | exc (c : Str) (fs : List (Str × D)) | rng (lo hi : Int) | non | bl (b : Bool) | int (i : Int) | str (x : Str)
  | tup (xs : List D) | lst (xs : List D) | obj (c : Str) (fs : List (Str × D)) | sto | scr (ns : List Int)
structure SM where
  cs : List Int
  xs : List Int
inductive R (α : Type) where
  | ok (a : α) (m : SM)
  | err (c : Str) (fs : List (Str × D)) (m : SM)
  | bad
def M (α : Type) : Type := SM → R α
def M.ret {α : Type} (a : α) : M α := fun m => .ok a m
def M.bad {α : Type} : M α := fun _ => .bad
def M.thn {α β : Type} (x : M α) (f : α → M β) : M β := fun m => match x m with
  | .ok a m' => f a m'
  | .err c fs m' => .err c fs m'
  | .bad => .bad
instance : Monad M where
  pure := M.ret
  bind := M.thn
@[simp] theorem pure_run {α : Type} (a : α) (m : SM) : (pure a : M α) m = .ok a m := rfl
@[simp] theorem bind_run {α β : Type} (x : M α) (f : α → M β) (m : SM) : (x >>= f) m = match x m with
  | .ok a m' => f a m'
  | .err c fs m' => .err c fs m'
  | .bad => .bad := rfl
@[simp] theorem bad_run {α : Type} (m : SM) : (M.bad : M α) m = .bad := rfl
instance : LawfulMonad M := LawfulMonad.mk' (m := M)
  (id_map := fun x => by funext m; show (match x m with | .ok a m' => _ | .err c fs m' => _ | .bad => _) = x m; cases x m <;> rfl)
  (pure_bind := fun _ _ => rfl)
  (bind_assoc := fun x f g => by
    funext m
    show (match (match x m with | .ok a m' => f a m' | .err c fs m' => .err c fs m' | .bad => .bad) with | .ok a m' => g a m' | .err c fs m' => .err c fs m' | .bad => .bad) = (match x m with | .ok a m' => (match f a m' with | .ok a m' => g a m' | .err c fs m' => .err c fs m' | .bad => .bad) | .err c fs m' => .err c fs m' | .bad => .bad)
    cases x m <;> rfl)
/-- the exception that is handled, where one is -/
abbrev XI : Type := Option (Addr × Obj)
def _root_.L2.Cx.xi (X : L2.Cx) : XI := match X.A.handled with
  | none => none
  | some _ => X.pn.head?
theorem xi_none {X : L2.Cx} (h : X.A.handled = none) : X.xi = none := by unfold L2.Cx.xi; rw [h]
theorem xi_room {X : L2.Cx} {k : Nat} (hr : Room k X.A) : X.xi = none := xi_none hr.hd
/-- the store's place -/
structure Stx (xi : XI) where
  s : Option (Addr × Addr)
/-- a tuple whose object is known (it has no dict of its own) -/
def TupN (K : PySem.W.Frag) (H : Hp) (a : Addr) (vs : List V) : Prop := (∃ ob : Obj, H a = some (.frz ob (.tup vs)) ∧ ob.dict = none) ∨
  ∃ (o : Obj) (its : Array Value) (n : Nat), K.lookup a = some o ∧ o.cls = .type "tuple" ∧ o.dict = none ∧ o.data = .seq its n ∧ its.size ≤ sizeLine ∧ Vals vs its.toList
theorem TupN.sq {K : PySem.W.Frag} {H : Hp} {a : Addr} {vs : List V} (h : TupN K H a vs) : SqT K H a vs := by
  rcases h with ⟨ob, h, _⟩ | ⟨o, its, n, h1, h2, _, h3⟩
  · exact .inl (.inr ⟨ob, h⟩)
  · exact .inr ⟨o, its, n, h1, h2, h3⟩
theorem TupN.new {K : PySem.W.Frag} {H : Hp} {a : Addr} {vs : List V} {ob : Obj} (h : ob.dict = none) : TupN K (upd H a (.frz ob (.tup vs))) a vs := .inl ⟨ob, upd_same, h⟩
/-- a list that nobody changes -/
def Fz (K : PySem.W.Frag) (H : Hp) (a : Addr) (xs : List V) : Prop := (∃ o, H a = some (.frz o (.lst xs))) ∨ ∀ H', SqL K H' a xs
theorem Fz.sq {K : PySem.W.Frag} {H : Hp} {a : Addr} {xs : List V} (h : Fz K H a xs) : SqL K H a xs := by
  rcases h with ⟨o, h⟩ | h
  · exact .inl (.inr ⟨o, h⟩)
  · exact h H
theorem Fz.of {K : PySem.W.Frag} {H : Hp} {a : Addr} {xs : List V} (o : Only H) (h : SqL K H a xs) : Fz K H a xs := by
  rcases h with (h | h) | h
  · rcases o a with q | ⟨_, _, q⟩
    · rw [q] at h; cases h
    · rw [q] at h; cases h
  · exact .inl h
  · exact .inr fun _ => .inr h
section
variable (K : PySem.W.Frag) {xi : XI} (st : Stx xi) (S : Addr → Prop) (H : Hp)
mutual
inductive Rep : V → D → Prop
  | non : Rep .non .non
  | bl (b : Bool) : Rep (.bl b) (.bl b)
  | int (i : Int) : Rep (.int i) (.int i)
  | str (x : Str) : Rep (.str x) (.str x)
  | tup {a : Addr} {vs : List V} {ds : List D} : TupN K H a vs → RepL vs ds → Rep (.ref a) (.tup ds)
  | lst {a : Addr} {vs : List V} {ds : List D} : ¬ S a → H a = some (.lst vs) → RepL vs ds → Rep (.ref a) (.lst ds)
  | scr {a : Addr} {ns : List Int} : Fz K H a (ns.map V.int) → Rep (.ref a) (.scr ns)
  | obj {a dx : Addr} {c : Str} {fv : List (Str × V)} {fs : List (Str × D)} : ¬ S a → H a = some (.ins (He.ga K c) dx fv) → RepF fv fs → Rep (.ref a) (.obj c fs)
  | sto {a c : Addr} : st.s = some (a, c) → Rep (.ref a) .sto
  | rng {a : Addr} {lo hi : Int} : H a = some (.rng lo hi) → Rep (.ref a) (.rng lo hi)
  | exc {a dd : Addr} {oe : Obj} {c : Str} {fv : List (Str × V)} {fs : List (Str × D)} : xi = some (a, oe) → oe.cls = .ref (He.ga K c) → oe.dict = some dd → (∃ vs, oe.data = .fields vs) → H dd = some (.xd fv) → RepF fv fs → Rep (.ref a) (.exc c fs)
inductive RepL : List V → List D → Prop
  | nil : RepL [] []
  | cons {v : V} {d : D} {vs : List V} {ds : List D} : Rep v d → RepL vs ds → RepL (v :: vs) (d :: ds)
inductive RepF : List (Str × V) → List (Str × D) → Prop
  | nil : RepF [] []
  | cons {x : Str} {v : V} {d : D} {vs : List (Str × V)} {ds : List (Str × D)} : Rep v d → RepF vs ds → RepF ((x, v) :: vs) ((x, d) :: ds)
end
end
/-- what may have changed: only lists and instances at addresses of B -/
def isMut : HO → Bool
  | .lst _ => true
  | .ins _ _ _ => true
  | _ => false
def Chg (B : Addr → Prop) (H H' : Hp) : Prop := ∀ a o, H a = some o → H' a = some o ∨ (B a ∧ isMut o = true ∧ ∃ o', H' a = some o' ∧ isMut o' = true)
theorem Chg.refl {B : Addr → Prop} (H : Hp) : Chg B H H := fun _ _ h => .inl h
theorem Chg.trans {B : Addr → Prop} {H H1 H2 : Hp} (a : Chg B H H1) (b : Chg B H1 H2) : Chg B H H2 := fun x o h => by
  rcases a x o h with h1 | ⟨hb, hm, o1, h1, m1⟩
  · exact b x o h1
  · rcases b x o1 h1 with h2 | ⟨_, _, o2, h2, m2⟩
    · exact .inr ⟨hb, hm, o1, h2, m1⟩
    · exact .inr ⟨hb, hm, o2, h2, m2⟩
theorem Chg.mono {B B' : Addr → Prop} {H H' : Hp} (a : Chg B H H') (h : ∀ x, B x → B' x) : Chg B' H H' := fun x o e => by
  rcases a x o e with h1 | ⟨hb, r⟩
  · exact .inl h1
  · exact .inr ⟨h x hb, r⟩
theorem Chg.there {B : Addr → Prop} {H H' : Hp} (a : Chg B H H') {x : Addr} (h : H x ≠ none) : H' x ≠ none := by
  cases e : H x with
  | none => exact absurd e h
  | some o =>
    rcases a x o e with h1 | ⟨_, _, o', h1, _⟩
    · rw [h1]; simp
    · rw [h1]; simp
theorem Chg.free {B : Addr → Prop} {H H' : Hp} (a : Chg B H H') {x : Addr} (h : H' x = none) : H x = none := by
  cases e : H x with
  | none => rfl
  | some o => exact absurd h (a.there (by rw [e]; simp))
theorem Chg.keep {B : Addr → Prop} {H H' : Hp} (a : Chg B H H') {x : Addr} {o : HO} (h : H x = some o) (n : isMut o = false ∨ ¬ B x) : H' x = some o := by
  rcases a x o h with h1 | ⟨hb, hm, _⟩
  · exact h1
  · rcases n with n | n
    · rw [n] at hm; cases hm
    · exact absurd hb n
theorem Chg.new {B : Addr → Prop} {H : Hp} {p : Addr} {o : HO} (n : H p = none) : Chg B H (upd H p o) := fun x u h => .inl (by
  rw [upd_ne (ne_of_none h n)]; exact h)
theorem Chg.fz {K : PySem.W.Frag} {B : Addr → Prop} {H H' : Hp} (c : Chg B H H') {a : Addr} {xs : List V} (h : Fz K H a xs) : Fz K H' a xs := h.imp (fun ⟨o, z⟩ => ⟨o, c.keep z (.inl rfl)⟩) id
theorem Chg.tupN {K : PySem.W.Frag} {B : Addr → Prop} {H H' : Hp} (c : Chg B H H') {a : Addr} {vs : List V} (h : TupN K H a vs) : TupN K H' a vs := by
  rcases h with ⟨ob, h, d⟩ | h
  · exact .inl ⟨ob, c.keep h (.inl rfl), d⟩
  · exact .inr h
section
variable {K : PySem.W.Frag} {st : Stx xi} {S S' B : Addr → Prop} {H H' : Hp}
mutual
/-- stays, over changes within the places that it avoids; avoiding less -/
theorem Rep.mono (c : Chg B H H') (hB : ∀ a, B a → S a) (hS : ∀ a, S' a → S a) : ∀ {v : V} {d : D}, Rep K st S H v d → Rep K st S' H' v d
  | _, _, .non => .non
  | _, _, .bl b => .bl b
  | _, _, .int i => .int i
  | _, _, .str x => .str x
  | _, _, .tup h r => .tup (c.tupN h) (RepL.mono c hB hS r)
  | _, _, .lst n h r => .lst (fun z => n (hS _ z)) (c.keep h (.inr fun z => n (hB _ z))) (RepL.mono c hB hS r)
  | _, _, .scr h => .scr (h.imp (fun ⟨o, z⟩ => ⟨o, c.keep z (.inl rfl)⟩) id)
  | _, _, .obj n h r => .obj (fun z => n (hS _ z)) (c.keep h (.inr fun z => n (hB _ z))) (RepF.mono c hB hS r)
  | _, _, .sto h => .sto h
  | _, _, .rng h => .rng (c.keep h (.inl rfl))
  | _, _, .exc h1 h2 h3 h4 h r => .exc h1 h2 h3 h4 (c.keep h (.inl rfl)) (RepF.mono c hB hS r)
theorem RepL.mono (c : Chg B H H') (hB : ∀ a, B a → S a) (hS : ∀ a, S' a → S a) : ∀ {vs : List V} {ds : List D}, RepL K st S H vs ds → RepL K st S' H' vs ds
  | _, _, .nil => .nil
  | _, _, .cons h r => .cons (Rep.mono c hB hS h) (RepL.mono c hB hS r)
theorem RepF.mono (c : Chg B H H') (hB : ∀ a, B a → S a) (hS : ∀ a, S' a → S a) : ∀ {vs : List (Str × V)} {ds : List (Str × D)}, RepF K st S H vs ds → RepF K st S' H' vs ds
  | _, _, .nil => .nil
  | _, _, .cons h r => .cons (Rep.mono c hB hS h) (RepF.mono c hB hS r)
end
end
/-- no list, no instance, no store within -/
def D.flats : List D → Bool
  | [] => true
  | d :: ds => (match d with
    | .tup xs => D.flats xs
    | .lst _ => false
    | .obj _ _ => false
    | .exc _ _ => false
    | .sto => true
    | _ => true) && D.flats ds
def D.flat (d : D) : Bool := D.flats [d]
section
variable {K : PySem.W.Frag} {st : Stx xi} {S S' B : Addr → Prop} {H H' : Hp}
theorem flats_cons {d : D} {ds : List D} (h : D.flats (d :: ds) = true) : D.flat d = true ∧ D.flats ds = true := by
  unfold D.flat
  unfold D.flats at h
  obtain ⟨h1, h2⟩ := Bool.and_eq_true_iff.mp h
  refine ⟨?_, h2⟩
  unfold D.flats
  rw [h1]
  unfold D.flats
  rfl
mutual
theorem Rep.flat (c : Chg B H H') : ∀ {v : V} {d : D}, D.flat d = true → Rep K st S H v d → Rep K st S' H' v d
  | _, _, _, .non => .non
  | _, _, _, .bl b => .bl b
  | _, _, _, .int i => .int i
  | _, _, _, .str x => .str x
  | _, _, f, .tup h r => .tup (c.tupN h) (RepL.flat c (by
      unfold D.flat at f
      unfold D.flats at f
      exact (Bool.and_eq_true_iff.mp f).1) r)
  | _, _, f, .lst n h r => by unfold D.flat at f; unfold D.flats at f; cases f
  | _, _, f, .obj n h r => by unfold D.flat at f; unfold D.flats at f; cases f
  | _, _, _, .rng h => .rng (c.keep h (.inl rfl))
  | _, _, f, .exc _ _ _ _ _ _ => by unfold D.flat at f; unfold D.flats at f; cases f
  | _, _, _, .scr h => .scr (h.imp (fun ⟨o, z⟩ => ⟨o, c.keep z (.inl rfl)⟩) id)
  | _, _, _, .sto h => .sto h
theorem RepL.flat (c : Chg B H H') : ∀ {vs : List V} {ds : List D}, D.flats ds = true → RepL K st S H vs ds → RepL K st S' H' vs ds
  | _, _, _, .nil => .nil
  | _, _, f, .cons h r => .cons (Rep.flat c (flats_cons f).1 h) (RepL.flat c (flats_cons f).2 r)
end
theorem RepL.length {vs : List V} {ds : List D} (r : RepL K st S H vs ds) : vs.length = ds.length := by
  induction vs generalizing ds with
  | nil => cases r; rfl
  | cons v vs ih =>
    cases r with
    | cons h t => simp [ih t]
theorem RepL.get : ∀ {vs : List V} {ds : List D} {i : Nat} {d : D}, RepL K st S H vs ds → ds[i]? = some d → ∃ v, vs[i]? = some v ∧ Rep K st S H v d
  | _, _, 0, d, .cons h t, e => by simp at e; subst e; exact ⟨_, rfl, h⟩
  | _, _, i + 1, d, .cons h t, e => by
    obtain ⟨v, e1, r⟩ := RepL.get t (i := i) (by simpa using e)
    exact ⟨v, by simpa using e1, r⟩
  | _, _, _, d, .nil, e => by simp at e
theorem RepL.getV : ∀ {vs : List V} {ds : List D} {i : Nat} {v : V}, RepL K st S H vs ds → vs[i]? = some v → ∃ d, ds[i]? = some d ∧ Rep K st S H v d
  | _, _, 0, d, .cons h t, e => by simp at e; subst e; exact ⟨_, rfl, h⟩
  | _, _, i + 1, d, .cons h t, e => by
    obtain ⟨v, e1, r⟩ := RepL.getV t (i := i) (by simpa using e)
    exact ⟨v, by simpa using e1, r⟩
  | _, _, _, d, .nil, e => by simp at e
theorem RepL.append : ∀ {vs ws : List V} {ds es : List D}, RepL K st S H vs ds → RepL K st S H ws es → RepL K st S H (vs ++ ws) (ds ++ es)
  | _, _, _, _, .nil, s => s
  | _, _, _, _, .cons h t, s => .cons h (RepL.append t s)
theorem RepL.set {v : V} {d : D} (r : Rep K st S H v d) : ∀ {vs : List V} {ds : List D} (i : Nat), RepL K st S H vs ds → RepL K st S H (vs.set i v) (ds.set i d)
  | _, _, _, .nil => .nil
  | _, _, 0, .cons _ t => .cons r t
  | _, _, i + 1, .cons h t => .cons h (RepL.set r i t)
theorem RepL.take : ∀ {vs : List V} {ds : List D} (n : Nat), RepL K st S H vs ds → RepL K st S H (vs.take n) (ds.take n)
  | _, _, 0, _ => .nil
  | _, _, _ + 1, .nil => .nil
  | _, _, n + 1, .cons h t => .cons h (RepL.take n t)
theorem RepL.drop : ∀ {vs : List V} {ds : List D} (n : Nat), RepL K st S H vs ds → RepL K st S H (vs.drop n) (ds.drop n)
  | _, _, 0, r => r
  | _, _, _ + 1, .nil => .nil
  | _, _, n + 1, .cons _ t => RepL.drop n t
theorem RepF.get : ∀ {vs : List (Str × V)} {ds : List (Str × D)} {f : Str} {d : D}, RepF K st S H vs ds → ds.lookup f = some d → ∃ v, vs.lookup f = some v ∧ Rep K st S H v d
  | _, _, f, d, .cons (x := x) h t, e => by
    rw [List.lookup_cons] at e ⊢
    cases q : f == x with
    | true => rw [q] at e; simp at e; subst e; exact ⟨_, rfl, h⟩
    | false => rw [q] at e; simp only at e ⊢; exact RepF.get t e
  | _, _, f, d, .nil, e => by simp at e
theorem RepF.none : ∀ {vs : List (Str × V)} {ds : List (Str × D)} {f : Str}, RepF K st S H vs ds → ds.lookup f = Option.none → vs.lookup f = Option.none
  | _, _, f, .cons (x := x) h t, e => by
    rw [List.lookup_cons] at e ⊢
    cases q : f == x with
    | true => rw [q] at e; simp at e
    | false => rw [q] at e; simp only at e ⊢; exact RepF.none t e
  | _, _, f, .nil, e => rfl
end
/-- the store: at a a list of the cells' list (at c) and ints -/
structure StoAt (K : PySem.W.Frag) (S : Addr → Prop) (H : Hp) (a c : Addr) (m : SM) : Prop where
  sa : S a
  at_ : H a = some (.lst (.ref c :: m.xs.map V.int))
  cs : Fz K H c (m.cs.map V.int)
structure Cov (K : PySem.W.Frag) (st : Stx xi) (S : Addr → Prop) (H : Hp) (m : SM) : Prop where
  dom : ∀ a, S a → H a ≠ none
  sto : ∀ a c, st.s = some (a, c) → StoAt K S H a c m
/-- the address of the store -/
abbrev atSt (st : Stx xi) : Addr → Prop := fun a => ∃ c, st.s = some (a, c)
theorem Cov.sub {K : PySem.W.Frag} {st : Stx xi} {S : Addr → Prop} {H : Hp} {m : SM} (c : Cov K st S H m) : ∀ a, atSt st a → S a := fun a ⟨d, e⟩ => (c.sto a d e).sa
abbrev EV := List (Option D)
/-- an outcome is met -/
def Out (K : PySem.W.Frag) (st : Stx xi) (S : Addr → Prop) (H : Hp) (r : R D) (Q : VK) (E : XK) : Prop := match r with
  | .ok d m' => ∀ v H', Chg (atSt st) H H' → Cov K st S H' m' → Rep K st S H' v d → Q v H'
  | .err c fs m' => ∀ dd fv H', Chg (atSt st) H H' → Cov K st S H' m' → H' dd = some (.xd fv) → H dd = none → RepF K st S H' fv fs → E (.ref (He.ga K c)) (some dd) H'
  | .bad => False
/-- a def's promise, by its function -/
def spOf (K : PySem.W.Frag) (g : List D → M D) : Sp := fun vs H Q E => ∃ (st : Stx none) (S : Addr → Prop) (ds : List D) (m : SM), Cov K st S H m ∧ RepL K st S H vs ds ∧ Out K st S H (g ds m) Q E
structure EnvR (K : PySem.W.Frag) (st : Stx xi) (S : Addr → Prop) (H : Hp) (σ : L2.St) (ρ : EV) : Prop where
  at_ : ∀ (i : Nat) (d : D), ρ[i]? = some (some d) → ∃ v, σ[i]? = some (some v) ∧ Rep K st S H v d
def TE (xi : XI) (K : PySem.W.Frag) (W : WX) (F : EV → M D) : L2.TE := fun σ H Q => ∃ (st : Stx xi) (S : Addr → Prop) (ρ : EV) (m : SM), Cov K st S H m ∧ EnvR K st S H σ ρ ∧ Out K st S H (F ρ m) Q (WE W σ)
structure SE (X : Cx) (W : WX) (e : Expr) (F : EV → M D) : Prop where
  pe : PE X e (TE X.xi X.K W F)
theorem PE.imp {X : Cx} {e : Expr} {t t' : L2.TE} (h : PE X e t) (i : ∀ σ H Q, t' σ H Q → t σ H Q) : PE X e t' := ⟨fun pins s σ H Q I q => h.run pins s σ H Q I (i σ H Q q)⟩
theorem EnvR.mono {K : PySem.W.Frag} {st : Stx xi} {S B : Addr → Prop} {H H' : Hp} {σ : L2.St} {ρ : EV} (e : EnvR K st S H σ ρ) (c : Chg B H H') (hB : ∀ a, B a → S a) : EnvR K st S H' σ ρ := ⟨fun i d h => by
  obtain ⟨v, h1, r⟩ := e.at_ i d h
  exact ⟨v, h1, r.mono c hB fun _ z => z⟩⟩
theorem Out.chg {K : PySem.W.Frag} {st : Stx xi} {S : Addr → Prop} {H H1 : Hp} {r : R D} {Q : VK} {E : XK} (o : Out K st S H r Q E) (c : Chg (atSt st) H H1) : Out K st S H1 r Q E := by
  cases r with
  | ok d m' => exact fun v H' c' => o v H' (c.trans c')
  | err k fs m' => exact fun dd fv H' c' cv h1 h2 => o dd fv H' (c.trans c') cv h1 (c.free h2)
  | bad => exact o
/-- one expression, then the rest by values -/
theorem TE.bind {K : PySem.W.Frag} {W : WX} {F : EV → M D} {G : D → EV → M D} {σ : L2.St} {H : Hp} {Q : VK} {R : V → Hp → Prop} {st : Stx xi} {S : Addr → Prop} {ρ : EV} {m : SM}
    (cv : Cov K st S H m) (er : EnvR K st S H σ ρ) (o : Out K st S H ((F ρ >>= fun d => G d ρ) m) Q (WE W σ))
    (k : ∀ v d m1 H1, Chg (atSt st) H H1 → Cov K st S H1 m1 → EnvR K st S H1 σ ρ → Rep K st S H1 v d → Out K st S H1 (G d ρ m1) Q (WE W σ) → R v H1) : TE xi K W F σ H R := by
  refine ⟨st, S, ρ, m, cv, er, ?_⟩
  rw [bind_run] at o
  cases e : F ρ m with
  | ok d m1 =>
    rw [e] at o
    exact fun v H1 c cv1 r => k v d m1 H1 c cv1 (er.mono c cv.sub) r (Out.chg o c)
  | err c fs m1 =>
    rw [e] at o
    exact o
  | bad =>
    rw [e] at o
    exact o.elim
end Den
set_option Elab.async false
set_option linter.all false
set_option maxRecDepth 100000
set_option maxHeartbeats 4000000
namespace Den
open PySem PySem.Spec PyProof.Rows L2
def gVar (i : Nat) : EV → M D := fun ρ => match ρ[i]? with
  | some (some d) => pure d
  | _ => M.bad
section
variable {X : Cx} {W : WX} {pos : Pos}
theorem SE.imp {e : Expr} {F : EV → M D} {t : L2.TE} (h : PE X e t) (i : ∀ σ H Q, TE X.xi X.K W F σ H Q → t σ H Q) : SE X W e F := ⟨PE.imp h i⟩
theorem se_var {i : Nat} {x : Str} (h : PE X (.Name x pos) (tVar i)) : SE X W (.Name x pos) (gVar i) := by
  refine .imp h fun σ H Q ⟨st, S, ρ, m, cv, er, o⟩ => ?_
  unfold gVar at o
  cases e : ρ[i]? with
  | none => rw [e] at o; exact o.elim
  | some u =>
    cases u with
    | none => rw [e] at o; exact o.elim
    | some d =>
      rw [e] at o
      obtain ⟨v, h1, r⟩ := er.at_ i d e
      exact ⟨v, h1, o v H (Chg.refl H) cv r⟩
theorem se_con {e : Expr} {v : V} {d : D} (h : PE X e (tC v)) (r : ∀ {xi : XI} (st : Stx xi) S H, Rep X.K st S H v d) : SE X W e (fun _ => pure d) := by
  refine .imp h fun σ H Q ⟨st, S, ρ, m, cv, er, o⟩ => ?_
  exact o v H (Chg.refl H) cv (r st S H)
theorem se_int {i : Int} {j} : SE X W (.Constant (.int i) j pos) (fun _ => pure (.int i)) := se_con pe_int fun _ _ _ => .int i
theorem se_bl {b : Bool} {j} : SE X W (.Constant (.bool b) j pos) (fun _ => pure (.bl b)) := se_con pe_bl fun _ _ _ => .bl b
theorem se_non {j} : SE X W (.Constant .none j pos) (fun _ => pure .non) := se_con pe_non fun _ _ _ => .non
theorem se_str {x : Str} {j} : SE X W (.Constant (.str x) j pos) (fun _ => pure (.str x)) := se_con pe_str fun _ _ _ => .str x
/-- a rule by values, of two -/
def VR2 (K : PySem.W.Frag) (r : R2) (g : D → D → M D) : Prop := ∀ {xi : XI} (st : Stx xi) (S : Addr → Prop) (H : Hp) (m : SM) (x y : V) (dx dy : D) (Q : VK) (E : XK), Cov K st S H m → Rep K st S H x dx → Rep K st S H y dy → Out K st S H (g dx dy m) Q E → r x y H Q
def VR1 (K : PySem.W.Frag) (r : V → Hp → VK → Prop) (g : D → M D) : Prop := ∀ {xi : XI} (st : Stx xi) (S : Addr → Prop) (H : Hp) (m : SM) (x : V) (dx : D) (Q : VK) (E : XK), Cov K st S H m → Rep K st S H x dx → Out K st S H (g dx m) Q E → r x H Q
def VRL (K : PySem.W.Frag) (r : List V → Hp → VK → Prop) (g : List D → M D) : Prop := ∀ {xi : XI} (st : Stx xi) (S : Addr → Prop) (H : Hp) (m : SM) (xs : List V) (ds : List D) (Q : VK) (E : XK), Cov K st S H m → RepL K st S H xs ds → Out K st S H (g ds m) Q E → r xs H Q
theorem TE.bind2 {K : PySem.W.Frag} {Fa Fb : EV → M D} {g : D → D → M D} {r : R2} (hr : VR2 K r g) {σ : L2.St} {H : Hp} {Q : VK} (h : TE xi K W (fun ρ => do let x ← Fa ρ; let y ← Fb ρ; g x y) σ H Q) : tOp r (TE xi K W Fa) (TE xi K W Fb) σ H Q := by
  obtain ⟨st, S, ρ, m, cv, er, o⟩ := h
  refine TE.bind (G := fun x ρ => do let y ← Fb ρ; g x y) cv er o fun x dx m1 H1 c1 cv1 er1 rx o1 => ?_
  refine TE.bind (G := fun y ρ => g dx y) cv1 er1 o1 fun y dy m2 H2 c2 cv2 er2 ry o2 => ?_
  exact hr st S H2 m2 x y dx dy Q _ cv2 (rx.mono c2 cv1.sub fun _ z => z) ry o2
theorem se_op {op : Operator} {r : R2} {a b : Expr} {Fa Fb : EV → M D} (g : D → D → M D) (ho : OpR X (binaryOp op) r) (hr : VR2 X.K r g) (ha : SE X W a Fa) (hb : SE X W b Fb) : SE X W (.BinOp a op b pos) (fun ρ => do let x ← Fa ρ; let y ← Fb ρ; g x y) :=
  .imp (pe_op ho ha.pe hb.pe) fun _ _ _ h => TE.bind2 hr h
theorem se_cmp {op : CmpOp} {r : R2} {a b : Expr} {Fa Fb : EV → M D} (g : D → D → M D) (ho : OpR X (compareOp op) r) (hr : VR2 X.K r g) (ha : SE X W a Fa) (hb : SE X W b Fb) (hm : behindInMarks op b = false) : SE X W (.Compare a [op] [b] pos) (fun ρ => do let x ← Fa ρ; let y ← Fb ρ; g x y) :=
  .imp (pe_cmpR ho ha.pe hb.pe hm) fun _ _ _ h => TE.bind2 hr h
theorem se_ix {r : R2} {a b : Expr} {Fa Fb : EV → M D} (g : D → D → M D) (ho : IxR X r) (hr : VR2 X.K r g) (ha : SE X W a Fa) (hb : SE X W b Fb) (hs : PlainIx b) : SE X W (.Subscript a b pos) (fun ρ => do let x ← Fa ρ; let y ← Fb ρ; g x y) :=
  .imp (pe_ix ho ha.pe hb.pe hs) fun _ _ _ h => TE.bind2 hr h
theorem se_un {op : UnaryOp} {r : V → Hp → VK → Prop} {a : Expr} {Fa : EV → M D} (g : D → M D) (ho : UnR X (unaryOp op) r) (hr : VR1 X.K r g) (ha : SE X W a Fa) : SE X W (.UnaryOp op a pos) (fun ρ => do let x ← Fa ρ; g x) :=
  .imp (pe_un ho ha.pe) fun σ H Q ⟨st, S, ρ, m, cv, er, o⟩ => TE.bind (G := fun x _ => g x) cv er o fun x dx m1 H1 c1 cv1 er1 rx o1 => hr st S H1 m1 x dx Q _ cv1 rx o1
def OutB (K : PySem.W.Frag) (st : Stx xi) (S : Addr → Prop) (H : Hp) (r : R Bool) (Q : Bool → Hp → Prop) (E : XK) : Prop := match r with
  | .ok b m' => ∀ H', Chg (atSt st) H H' → Cov K st S H' m' → Q b H'
  | .err c fs m' => ∀ dd fv H', Chg (atSt st) H H' → Cov K st S H' m' → H' dd = some (.xd fv) → H dd = none → RepF K st S H' fv fs → E (.ref (He.ga K c)) (some dd) H'
  | .bad => False
def TT (xi : XI) (K : PySem.W.Frag) (W : WX) (C : EV → M Bool) : L2.TT := fun σ H Q => ∃ (st : Stx xi) (S : Addr → Prop) (ρ : EV) (m : SM), Cov K st S H m ∧ EnvR K st S H σ ρ ∧ OutB K st S H (C ρ m) Q (WE W σ)
structure ST (X : Cx) (W : WX) (e : Expr) (C : EV → M Bool) : Prop where
  pt : PT X e (TT X.xi X.K W C)
/-- for and, or -/
structure SW (X : Cx) (W : WX) (e : Expr) (C : EV → M Bool) : Prop where
  pw : PW X e (TT X.xi X.K W C)
theorem PT.imp {e : Expr} {t t' : L2.TT} (h : PT X e t) (i : ∀ σ H Q, t' σ H Q → t σ H Q) : PT X e t' := ⟨fun pins s σ H Q I q => h.run pins s σ H Q I (i σ H Q q)⟩
theorem PW.imp {e : Expr} {t t' : L2.TT} (h : PW X e t) (i : ∀ σ H Q, t' σ H Q → t σ H Q) : PW X e t' := ⟨fun wh pins s σ H Q I q => h.run wh pins s σ H Q I (i σ H Q q)⟩
theorem OutB.chg {K : PySem.W.Frag} {st : Stx xi} {S : Addr → Prop} {H H1 : Hp} {r : R Bool} {Q : Bool → Hp → Prop} {E : XK} (o : OutB K st S H r Q E) (c : Chg (atSt st) H H1) : OutB K st S H1 r Q E := by
  cases r with
  | ok d m' => exact fun H' c' => o H' (c.trans c')
  | err k fs m' => exact fun dd fv H' c' cv h1 h2 => o dd fv H' (c.trans c') cv h1 (c.free h2)
  | bad => exact o
/-- one test, then the rest of a test -/
theorem TT.bind {K : PySem.W.Frag} {C : EV → M Bool} {G : Bool → EV → M Bool} {σ : L2.St} {H : Hp} {Q R : Bool → Hp → Prop} {st : Stx xi} {S : Addr → Prop} {ρ : EV} {m : SM}
    (cv : Cov K st S H m) (er : EnvR K st S H σ ρ) (o : OutB K st S H ((C ρ >>= fun d => G d ρ) m) Q (WE W σ))
    (k : ∀ b m1 H1, Chg (atSt st) H H1 → Cov K st S H1 m1 → EnvR K st S H1 σ ρ → OutB K st S H1 (G b ρ m1) Q (WE W σ) → R b H1) : TT xi K W C σ H R := by
  refine ⟨st, S, ρ, m, cv, er, ?_⟩
  rw [bind_run] at o
  cases e : C ρ m with
  | ok b m1 =>
    rw [e] at o
    exact fun H1 c cv1 => k b m1 H1 c cv1 (er.mono c cv.sub) (OutB.chg o c)
  | err c fs m1 =>
    rw [e] at o
    exact o
  | bad =>
    rw [e] at o
    exact o.elim
/-- one test, then the rest of a value -/
theorem TT.bindE {K : PySem.W.Frag} {C : EV → M Bool} {G : Bool → EV → M D} {σ : L2.St} {H : Hp} {Q : VK} {R : Bool → Hp → Prop} {st : Stx xi} {S : Addr → Prop} {ρ : EV} {m : SM}
    (cv : Cov K st S H m) (er : EnvR K st S H σ ρ) (o : Out K st S H ((C ρ >>= fun d => G d ρ) m) Q (WE W σ))
    (k : ∀ b m1 H1, Chg (atSt st) H H1 → Cov K st S H1 m1 → EnvR K st S H1 σ ρ → Out K st S H1 (G b ρ m1) Q (WE W σ) → R b H1) : TT xi K W C σ H R := by
  refine ⟨st, S, ρ, m, cv, er, ?_⟩
  rw [bind_run] at o
  cases e : C ρ m with
  | ok b m1 =>
    rw [e] at o
    exact fun H1 c cv1 => k b m1 H1 c cv1 (er.mono c cv.sub) (Out.chg o c)
  | err c fs m1 =>
    rw [e] at o
    exact o
  | bad =>
    rw [e] at o
    exact o.elim
/-- one value, then the rest of a test -/
theorem TE.bindT {K : PySem.W.Frag} {F : EV → M D} {G : D → EV → M Bool} {σ : L2.St} {H : Hp} {Q : Bool → Hp → Prop} {R : V → Hp → Prop} {st : Stx xi} {S : Addr → Prop} {ρ : EV} {m : SM}
    (cv : Cov K st S H m) (er : EnvR K st S H σ ρ) (o : OutB K st S H ((F ρ >>= fun d => G d ρ) m) Q (WE W σ))
    (k : ∀ v d m1 H1, Chg (atSt st) H H1 → Cov K st S H1 m1 → EnvR K st S H1 σ ρ → Rep K st S H1 v d → OutB K st S H1 (G d ρ m1) Q (WE W σ) → R v H1) : TE xi K W F σ H R := by
  refine ⟨st, S, ρ, m, cv, er, ?_⟩
  rw [bind_run] at o
  cases e : F ρ m with
  | ok d m1 =>
    rw [e] at o
    exact fun v H1 c cv1 r => k v d m1 H1 c cv1 (er.mono c cv.sub) r (OutB.chg o c)
  | err c fs m1 =>
    rw [e] at o
    exact o
  | bad =>
    rw [e] at o
    exact o.elim
def asB : D → M Bool
  | .bl b => pure b
  | _ => M.bad
/-- truth -/
def dTru : D → M Bool
  | .non => pure false
  | .bl b => pure b
  | .int i => pure (i != 0)
  | .str y => if y.length ≤ sizeLine then pure ((y.length : Int) != 0) else M.bad
  | .tup xs => pure (!xs.isEmpty)
  | .lst xs => pure (!xs.isEmpty)
  | _ => M.bad
theorem isEmpty_rep {K : PySem.W.Frag} {st : Stx xi} {S : Addr → Prop} {H : Hp} {vs : List V} {ds : List D} (r : RepL K st S H vs ds) : vs.isEmpty = ds.isEmpty := by
  cases r <;> rfl
theorem dTru_ok {K : PySem.W.Frag} {st : Stx xi} {S : Addr → Prop} {H : Hp} {m m' : SM} {x : V} {d : D} {b : Bool} (r : Rep K st S H x d) (e : dTru d m = .ok b m') : TruV K x H b ∧ m' = m := by
  cases r with
  | non => cases e; exact ⟨rfl, rfl⟩
  | bl b => cases e; exact ⟨rfl, rfl⟩
  | int i => cases e; exact ⟨rfl, rfl⟩
  | str y =>
    have e' : (if y.length ≤ sizeLine then pure ((y.length : Int) != 0) else M.bad : M Bool) m = .ok b m' := e
    by_cases z : y.length ≤ sizeLine
    · rw [if_pos z] at e'; cases e'; exact ⟨⟨z, rfl⟩, rfl⟩
    · rw [if_neg z] at e'; cases e'
  | tup h r => cases e; exact ⟨.inr (.inl ⟨_, h.sq, by rw [isEmpty_rep r]⟩), rfl⟩
  | lst n h r => cases e; exact ⟨.inl ⟨_, SqL.of h, by rw [isEmpty_rep r]⟩, rfl⟩
  | obj _ _ _ => cases e
  | sto _ => cases e
  | exc _ _ _ _ _ _ => cases e
  | rng _ => cases e
  | scr _ => cases e
theorem dTru_run (d : D) (m : SM) : (∃ b, dTru d m = .ok b m) ∨ dTru d m = .bad := by
  cases d with
  | str y =>
    show (∃ b, (if y.length ≤ sizeLine then pure ((y.length : Int) != 0) else M.bad : M Bool) m = .ok b m) ∨ (if y.length ≤ sizeLine then pure ((y.length : Int) != 0) else M.bad : M Bool) m = .bad
    by_cases z : y.length ≤ sizeLine
    · rw [if_pos z]; exact .inl ⟨_, rfl⟩
    · rw [if_neg z]; exact .inr rfl
  | _ => first | exact .inl ⟨_, rfl⟩ | exact .inr rfl
/-- a value's truth as a test -/
theorem st_tru {e : Expr} {F : EV → M D} (ha : SE X W e F) (he : ∀ whole, isTrue e X.env whole = (do let v ← whole; standAt e.pos; holding [v] (truthy v))) : ST X W e (fun ρ => do let x ← F ρ; dTru x) := by
  refine ⟨PT.imp (pt_truth ha.pe he) fun σ H Q ⟨st, S, ρ, m, cv, er, o⟩ => ?_⟩
  refine TE.bindT (G := fun d _ => dTru d) cv er o fun v d m1 H1 c1 cv1 er1 r o1 => ?_
  rcases dTru_run d m1 with ⟨b, e1⟩ | e1
  · rw [e1] at o1
    exact ⟨b, (dTru_ok r e1).1, o1 H1 (Chg.refl _) cv1⟩
  · rw [e1] at o1; exact o1.elim
/-- a comparison as a test -/
theorem st_cmp {op : CmpOp} {r : R2} {a b : Expr} {Fa Fb : EV → M D} (g : D → D → M D) (ho : OpR X (compareOp op) r) (hr : VR2 X.K r g) (ha : SE X W a Fa) (hb : SE X W b Fb) (hm : behindInMarks op b = false) :
    ST X W (.Compare a [op] [b] pos) (fun ρ => do let x ← Fa ρ; let y ← Fb ρ; let z ← g x y; asB z) := by
  refine ⟨PT.imp (pt_cmpR ho ha.pe hb.pe hm) fun σ H Q ⟨st, S, ρ, m, cv, er, o⟩ => ?_⟩
  refine TE.bindT (G := fun x ρ => do let y ← Fb ρ; let z ← g x y; asB z) cv er o fun x dx m1 H1 c1 cv1 er1 rx o1 => ?_
  refine TE.bindT (G := fun y ρ => do let z ← g dx y; asB z) cv1 er1 o1 fun y dy m2 H2 c2 cv2 er2 ry o2 => ?_
  refine hr st S H2 m2 x y dx dy _ (WE W σ) cv2 (rx.mono c2 cv1.sub fun _ z => z) ry ?_
  rw [bind_run] at o2
  cases e : g dx dy m2 with
  | ok d m3 =>
    rw [e] at o2
    intro v H3 c3 cv3 r3
    cases r3 with
    | bl b => exact ⟨b, rfl, o2 H3 c3 cv3⟩
    | _ => exact o2.elim
  | err c fs m3 =>
    rw [e] at o2
    exact o2
  | bad => rw [e] at o2; exact o2.elim
theorem st_not {a : Expr} {C : EV → M Bool} (ha : ST X W a C) : ST X W (.UnaryOp .Not a pos) (fun ρ => do let b ← C ρ; pure (!b)) := by
  refine ⟨PT.imp (pt_not ha.pt) fun σ H Q ⟨st, S, ρ, m, cv, er, o⟩ => ?_⟩
  exact TT.bind (G := fun b _ => pure (!b)) cv er o fun b m1 H1 c1 cv1 er1 o1 => o1 H1 (Chg.refl _) cv1
theorem sw_and1 {a : Expr} {C : EV → M Bool} (ha : ST X W a C) : SW X W (.BoolOp .And [a] pos) C := ⟨pw_and1 ha.pt⟩
theorem sw_or1 {a : Expr} {C : EV → M Bool} (ha : ST X W a C) : SW X W (.BoolOp .Or [a] pos) C := ⟨pw_or1 ha.pt⟩
theorem sw_and {a b : Expr} {rest : List Expr} {C C' : EV → M Bool} (ha : ST X W a C) (hb : SW X W (.BoolOp .And (b :: rest) pos) C') : SW X W (.BoolOp .And (a :: b :: rest) pos) (fun ρ => do let x ← C ρ; if x = true then C' ρ else pure false) := by
  refine ⟨PW.imp (pw_and ha.pt hb.pw) fun σ H Q ⟨st, S, ρ, m, cv, er, o⟩ => ?_⟩
  refine TT.bind (G := fun x ρ => if x = true then C' ρ else pure false) cv er o fun b m1 H1 c1 cv1 er1 o1 => ?_
  cases b with
  | true => exact ⟨st, S, ρ, m1, cv1, er1, o1⟩
  | false => exact o1 H1 (Chg.refl _) cv1
theorem sw_or {a b : Expr} {rest : List Expr} {C C' : EV → M Bool} (ha : ST X W a C) (hb : SW X W (.BoolOp .Or (b :: rest) pos) C') : SW X W (.BoolOp .Or (a :: b :: rest) pos) (fun ρ => do let x ← C ρ; if x = true then pure true else C' ρ) := by
  refine ⟨PW.imp (pw_or ha.pt hb.pw) fun σ H Q ⟨st, S, ρ, m, cv, er, o⟩ => ?_⟩
  refine TT.bind (G := fun x ρ => if x = true then pure true else C' ρ) cv er o fun b m1 H1 c1 cv1 er1 o1 => ?_
  cases b with
  | false => exact ⟨st, S, ρ, m1, cv1, er1, o1⟩
  | true => exact o1 H1 (Chg.refl _) cv1
theorem se_one {op} {a : Expr} {F : EV → M D} (ha : SE X W a F) : SE X W (.BoolOp op [a] pos) F := ⟨pe_one ha.pe⟩
theorem se_and {a b : Expr} {rest : List Expr} {F F' : EV → M D} (ha : SE X W a F) (hb : SE X W (.BoolOp .And (b :: rest) pos) F') : SE X W (.BoolOp .And (a :: b :: rest) pos) (fun ρ => do let x ← F ρ; let b ← dTru x; if b = true then F' ρ else pure x) := by
  refine .imp (pe_andT ha.pe hb.pe) fun σ H Q ⟨st, S, ρ, m, cv, er, o⟩ => ?_
  refine TE.bind (G := fun x ρ => do let b ← dTru x; if b = true then F' ρ else pure x) cv er o fun v d m1 H1 c1 cv1 er1 r o1 => ?_
  rw [bind_run] at o1
  rcases dTru_run d m1 with ⟨b, e1⟩ | e1
  · rw [e1] at o1
    refine ⟨b, (dTru_ok r e1).1, ?_⟩
    cases b with
    | true => exact ⟨st, S, ρ, m1, cv1, er1, o1⟩
    | false => exact o1 v H1 (Chg.refl _) cv1 r
  · rw [e1] at o1; exact o1.elim
theorem se_not {a : Expr} {F : EV → M D} (ha : SE X W a F) : SE X W (.UnaryOp .Not a pos) (fun ρ => do let x ← F ρ; let b ← dTru x; pure (.bl (!b))) := by
  refine .imp (pe_notT ha.pe) fun σ H Q ⟨st, S, ρ, m, cv, er, o⟩ => ?_
  refine TE.bind (G := fun x ρ => do let b ← dTru x; pure (.bl (!b))) cv er o fun v d m1 H1 c1 cv1 er1 r o1 => ?_
  rw [bind_run] at o1
  rcases dTru_run d m1 with ⟨b, e1⟩ | e1
  · rw [e1] at o1
    exact ⟨b, (dTru_ok r e1).1, o1 _ H1 (Chg.refl _) cv1 (.bl _)⟩
  · rw [e1] at o1; exact o1.elim
theorem se_ifx {c a b : Expr} {C : EV → M Bool} {Fa Fb : EV → M D} (hc : ST X W c C) (ha : SE X W a Fa) (hb : SE X W b Fb) : SE X W (.IfExp c a b pos) (fun ρ => do let x ← C ρ; if x = true then Fa ρ else Fb ρ) := by
  refine .imp (pe_ifExp hc.pt ha.pe hb.pe) fun σ H Q ⟨st, S, ρ, m, cv, er, o⟩ => ?_
  refine TT.bindE (G := fun x ρ => if x = true then Fa ρ else Fb ρ) cv er o fun b m1 H1 c1 cv1 er1 o1 => ?_
  cases b with
  | true => exact ⟨st, S, ρ, m1, cv1, er1, o1⟩
  | false => exact ⟨st, S, ρ, m1, cv1, er1, o1⟩
/-- a op b op2 c -/
theorem se_chain {op op' : CmpOp} {r r' : R2} {a b c : Expr} {Fa Fb Fc : EV → M D} (g g' : D → D → M D) (ho : OpR X (compareOp op) r) (hr : VR2 X.K r g) (ho' : OpR X (compareOp op') r') (hr' : VR2 X.K r' g') (ha : SE X W a Fa) (hb : SE X W b Fb) (hc : SE X W c Fc)
    (pe : ∀ {ta tb tc : L2.TE}, PE X a ta → PE X b tb → PE X c tc → PE X (.Compare a [op, op'] [b, c] pos) (tChain r r' ta tb tc)) :
    SE X W (.Compare a [op, op'] [b, c] pos) (fun ρ => do let x ← Fa ρ; let y ← Fb ρ; let z ← g x y; let k ← asB z; if k = true then (do let u ← Fc ρ; g' y u) else pure (.bl false)) := by
  refine .imp (pe ha.pe hb.pe hc.pe) fun σ H Q ⟨st, S, ρ, m, cv, er, o⟩ => ?_
  refine TE.bind (G := fun x ρ => do let y ← Fb ρ; let z ← g x y; let k ← asB z; if k = true then (do let u ← Fc ρ; g' y u) else pure (.bl false)) cv er o fun x dx m1 H1 c1 cv1 er1 rx o1 => ?_
  refine TE.bind (G := fun y ρ => do let z ← g dx y; let k ← asB z; if k = true then (do let u ← Fc ρ; g' y u) else pure (.bl false)) cv1 er1 o1 fun y dy m2 H2 c2 cv2 er2 ry o2 => ?_
  refine hr st S H2 m2 x y dx dy _ (WE W σ) cv2 (rx.mono c2 cv1.sub fun _ z => z) ry ?_
  rw [bind_run] at o2
  cases e : g dx dy m2 with
  | ok d m3 =>
    rw [e] at o2
    intro v H3 c3 cv3 r3
    cases r3 with
    | bl b =>
      refine ⟨b, rfl, ?_⟩
      cases b with
      | true =>
        refine TE.bind (G := fun u _ => g' dy u) cv3 ((er2.mono c3 cv2.sub)) (Out.chg o2 c3) fun u du m4 H4 c4 cv4 er4 ru o4 => ?_
        exact hr' st S H4 m4 y u dy du Q _ cv4 ((ry.mono c3 cv2.sub fun _ z => z).mono c4 cv3.sub fun _ z => z) ru o4
      | false => exact o2 _ H3 c3 cv3 (.bl _)
    | _ => exact o2.elim
  | err c fs m3 =>
    rw [e] at o2
    exact o2
  | bad => rw [e] at o2; exact o2.elim
end
end Den
set_option Elab.async false
set_option linter.all false
set_option maxRecDepth 100000
set_option maxHeartbeats 4000000
namespace Den
open PySem PySem.Spec PyProof.Rows L2
section
variable {K : PySem.W.Frag}
theorem Cov.keep {st : Stx xi} {S B : Addr → Prop} {H H' : Hp} {m : SM} (cv : Cov K st S H m) (c : Chg B H H') (n : ∀ a, B a → ¬ S a) : Cov K st S H' m := by
  refine ⟨fun a h => c.there (cv.dom a h), fun a d e => ?_⟩
  have q := cv.sto a d e
  exact ⟨q.sa, c.keep q.at_ (.inr fun z => n a z q.sa), c.fz q.cs⟩
/-- avoiding more, or less, as it was said before -/
theorem Cov.swap {st : Stx xi} {S S' B : Addr → Prop} {H H' : Hp} {m m' : SM} (cv : Cov K st S H m) (c : Chg B H H') (cv' : Cov K st S' H' m') : Cov K st S H' m' := by
  refine ⟨fun a h => c.there (cv.dom a h), fun a d e => ?_⟩
  have q := cv.sto a d e
  have q' := cv'.sto a d e
  exact ⟨q.sa, q'.at_, q'.cs⟩
theorem Cov.wide {st : Stx xi} {S S' : Addr → Prop} {H : Hp} {m : SM} (cv : Cov K st S H m) (h : ∀ a, S a → S' a) (d : ∀ a, S' a → H a ≠ none) : Cov K st S' H m :=
  ⟨d, fun a c e => by
    have q := cv.sto a c e
    exact ⟨h _ q.sa, q.at_, q.cs⟩⟩
theorem Chg.write {H : Hp} {p : Addr} {o o' : HO} (h : H p = some o) (m : isMut o = true) (m' : isMut o' = true) : Chg (fun a => a = p) H (upd H p o') := fun a u e => by
  by_cases hp : a = p
  · subst hp
    rw [h] at e; cases e
    exact .inr ⟨rfl, m, o', upd_same, m'⟩
  · exact .inl (by rw [upd_ne hp]; exact e)
section
variable {st : Stx xi} {S S' : Addr → Prop} {H : Hp}
mutual
/-- avoiding what is not there -/
theorem Rep.wide (h : ∀ a, S' a → S a ∨ H a = none) : ∀ {v : V} {d : D}, Rep K st S H v d → Rep K st S' H v d
  | _, _, .non => .non
  | _, _, .bl b => .bl b
  | _, _, .int i => .int i
  | _, _, .str x => .str x
  | _, _, .tup e r => .tup e (RepL.wide h r)
  | _, _, .lst n e r => .lst (fun z => (h _ z).elim n fun q => by rw [e] at q; cases q) e (RepL.wide h r)
  | _, _, .obj n e r => .obj (fun z => (h _ z).elim n fun q => by rw [e] at q; cases q) e (RepF.wide h r)
  | _, _, .sto e => .sto e
  | _, _, .scr e => .scr e
  | _, _, .exc h1 h2 h3 h4 e r => .exc h1 h2 h3 h4 e (RepF.wide h r)
  | _, _, .rng e => .rng e
theorem RepL.wide (h : ∀ a, S' a → S a ∨ H a = none) : ∀ {vs : List V} {ds : List D}, RepL K st S H vs ds → RepL K st S' H vs ds
  | _, _, .nil => .nil
  | _, _, .cons r t => .cons (Rep.wide h r) (RepL.wide h t)
theorem RepF.wide (h : ∀ a, S' a → S a ∨ H a = none) : ∀ {vs : List (Str × V)} {ds : List (Str × D)}, RepF K st S H vs ds → RepF K st S' H vs ds
  | _, _, .nil => .nil
  | _, _, .cons r t => .cons (Rep.wide h r) (RepF.wide h t)
end
theorem EnvR.wide {σ : L2.St} {ρ : EV} (h : ∀ a, S' a → S a ∨ H a = none) (e : EnvR K st S H σ ρ) : EnvR K st S' H σ ρ := ⟨fun i d q => by
  obtain ⟨v, h1, r⟩ := e.at_ i d q
  exact ⟨v, h1, r.wide h⟩⟩
end
abbrev noB : Addr → Prop := fun _ => False
theorem Cov.new {st : Stx xi} {S : Addr → Prop} {H : Hp} {m : SM} {p : Addr} {o : HO} (cv : Cov K st S H m) (n : H p = none) : Cov K st S (upd H p o) m := cv.keep (B := noB) (Chg.new n) fun _ z => z.elim
theorem Cov.out {st : Stx xi} {S : Addr → Prop} {H : Hp} {m : SM} {p : Addr} (cv : Cov K st S H m) (n : H p = none) : ¬ S p := fun z => cv.dom p z n
theorem Rep.new {st : Stx xi} {S : Addr → Prop} {H : Hp} {p : Addr} {o : HO} {v : V} {d : D} (r : Rep K st S H v d) (n : H p = none) : Rep K st S (upd H p o) v d := r.mono (B := noB) (Chg.new n) (fun _ z => z.elim) fun _ z => z
theorem RepL.new {st : Stx xi} {S : Addr → Prop} {H : Hp} {p : Addr} {o : HO} {v : List V} {d : List D} (r : RepL K st S H v d) (n : H p = none) : RepL K st S (upd H p o) v d := r.mono (B := noB) (Chg.new n) (fun _ z => z.elim) fun _ z => z
/-- the end of a pure rule -/
theorem out_pure {st : Stx xi} {S : Addr → Prop} {H : Hp} {m : SM} {v : V} {d : D} {Q : VK} {E : XK} (cv : Cov K st S H m) (o : Out K st S H ((pure d : M D) m) Q E) (r : Rep K st S H v d) : Q v H := o v H (Chg.refl H) cv r
theorem out_tup {st : Stx xi} {S : Addr → Prop} {H : Hp} {m : SM} {vs : List V} {ds : List D} {Q : VK} {E : XK} (cv : Cov K st S H m) (o : Out K st S H ((pure (.tup ds) : M D) m) Q E) (r : RepL K st S H vs ds) : ∀ (p : Addr) (ob : Obj), H p = none → ob.dict = none → Q (.ref p) (upd H p (.frz ob (.tup vs))) :=
  fun p ob n d => o _ _ (Chg.new n) (cv.new n) (.tup (TupN.new d) (r.new n))
/-- a new tuple, its object known -/
theorem tup_laid {X : Cx} {pins : List (Addr × Obj)} {σ : L2.St} {H : Hp} {s : Shared} {us : List Value} {vs : List V} {Q : VK} {h' : Heap} (I : Inv X pins σ H s) (r : Vals vs us) (hz : vs.length ≤ sizeLine) (kp : ∀ b o, s.heap.get? b = some o → h'.get? b = some o)
    (q : ∀ (p : Addr) (ob : Obj), H p = none → ob.dict = none → Q (.ref p) (upd H p (.frz ob (.tup vs)))) : EP X pins σ Q (.ref h'.objs.size) { s with heap := h'.push { cls := .type "tuple", data := .seq us.toArray } } := by
  have I1 : Inv X pins σ H { s with heap := h' } := I.kept (t' := s.toks) kp
  have hn : H h'.objs.size = none := I1.hok.fresh (Nat.le_refl _)
  have at_ : (h'.push { cls := .type "tuple", data := .seq us.toArray }).get? h'.objs.size = some { cls := .type "tuple", data := .seq us.toArray } := Heap.get?_push_size _ rfl
  refine ⟨.ref h'.objs.size, _, I1.laid (t' := s.toks) (o := .frz { cls := .type "tuple", data := .seq us.toArray } (.tup vs)) (fun b u e => Heap.get?_push_of_some _ e) (Nat.le_refl _) ⟨at_, hz, us, r, _, at_, rfl, _, rfl⟩, rfl, q _ _ hn rfl⟩
def rCatN (K : PySem.W.Frag) : R2 := fun x y H Q => ∃ a b xs ys, x = .ref a ∧ y = .ref b ∧ SqT K H a xs ∧ SqT K H b ys ∧ xs ≠ [] ∧ xs.length + ys.length ≤ sizeLine ∧
  (ys = [] → Q (.ref a) H) ∧ (ys ≠ [] → ∀ (p : Addr) (ob : Obj), H p = none → ob.dict = none → Q (.ref p) (upd H p (.frz ob (.tup (xs ++ ys)))))
theorem op_catN {X : Cx} : OpR X (binaryOp .Add) (rCatN X.K) := by
  intro pins s σ H x y v u Q I rx ry ⟨a, b, xs, ys, ex, ey, ha, hb, hx, hz, q1, q2⟩
  subst ex ey
  obtain rfl : v = Value.ref a := rx
  obtain rfl : u = Value.ref b := ry
  obtain ⟨its, r1, t1, _⟩ := I.tuple ha
  obtain ⟨its2, r2, t2, _⟩ := I.tuple hb
  refine HT.cat_tup t1 t2 (fun z => hx (r1.nil_iff.mp z)) (fun z => ⟨.ref a, H, I, rfl, q1 (r2.nil_iff.mp z)⟩) (fun z => ?_) (by rw [← r1.length, ← r2.length]; exact hz)
  exact tup_laid (h' := s.heap) I (r1.append r2) (by rw [List.length_append]; exact hz) (fun _ _ e => e) (q2 fun w => z (r2.nil_iff.mpr w))
def rTupN (K : PySem.W.Frag) : List V → Hp → VK → Prop := fun xs H Q => ∃ p ys, xs = [.ref p] ∧ ((SqL K H p ys ∧ ∀ (l : Addr) (ob : Obj), H l = none → ob.dict = none → Q (.ref l) (upd H l (.frz ob (.tup ys)))) ∨ (SqT K H p ys ∧ Q (.ref p) H))
theorem call_tupN {X : Cx} : CallR X (.type "tuple") (rTupN X.K) := by
  intro pins s σ H xs us Q I r ⟨p, ys, ex, h⟩
  subst ex
  obtain ⟨u, rfl, rx⟩ := vals1 r
  obtain rfl : u = Value.ref p := rx
  rcases h with ⟨hq, q⟩ | ⟨hq, q⟩
  · obtain ⟨its, rv, pl, hz⟩ := I.list hq
    have hl := rv.length
    refine call_tuple_list pl.isList (fun h' kp => tup_laid I rv hz kp q) (by simp only [List.size_toArray]; omega)
  · obtain ⟨its, rv, pl, hz⟩ := I.tuple hq
    exact call_tuple_same pl ⟨.ref p, H, I, rfl, q⟩
def tTupN (t : L2.TA) : L2.TE := fun σ H Q => t σ H fun xs H1 => xs.length ≤ sizeLine ∧ ∀ (p : Addr) (ob : Obj), H1 p = none → ob.dict = none → Q (.ref p) (upd H1 p (.frz ob (.tup xs)))
theorem pe_tupN {X : Cx} {es : List Expr} {pos : Pos} {t : L2.TA} {x1} (h : PA X es t) : PE X (.Tuple es x1 pos) (tTupN t) := by
  refine ⟨fun pins s σ H Q I hq => wpAny_Tuple_spliced (thn (h.run pos pins s σ H _ I hq) fun us s1 ⟨xs, H1, I1, r, z, q⟩ => ⟨by rw [← r.length]; exact z, ?_⟩)⟩
  exact tup_laid (h' := s1.heap) I1 r z (fun _ _ e => e) q
theorem out_lst {st : Stx xi} {S : Addr → Prop} {H : Hp} {m : SM} {vs : List V} {ds : List D} {Q : VK} {E : XK} (cv : Cov K st S H m) (o : Out K st S H ((pure (.lst ds) : M D) m) Q E) (r : RepL K st S H vs ds) : ∀ p, H p = none → Q (.ref p) (upd H p (.lst vs)) :=
  fun p n => o _ _ (Chg.new n) (cv.new n) (.lst (cv.out n) upd_same (r.new n))
def lim (n : Nat) : M Unit := if n ≤ 16777216 then pure () else M.bad
theorem out_lim {α : Type} {n : Nat} {f : Unit → M α} {m : SM} {P : R α → Prop} (hb : ¬ P .bad) (o : P ((lim n >>= f) m)) : n ≤ sizeLine ∧ P (f () m) := by
  unfold lim at o
  by_cases h : n ≤ 16777216
  · rw [if_pos h] at o; exact ⟨by rw [sizeLine_eq]; exact h, o⟩
  · rw [if_neg h] at o; exact (hb o).elim
def need (b : Bool) : M Unit := if b = true then pure () else M.bad
theorem out_need {α : Type} {b : Bool} {f : Unit → M α} {m : SM} {P : R α → Prop} (hb : ¬ P .bad) (o : P ((need b >>= f) m)) : b = true ∧ P (f () m) := by
  unfold need at o
  by_cases h : b = true
  · rw [if_pos h] at o; exact ⟨h, o⟩
  · rw [if_neg h] at o; exact (hb o).elim
theorem VR2.or {r r' : R2} {g : D → D → M D} {P : D → D → Bool} (h : ∀ {xi : XI} (st : Stx xi) (S : Addr → Prop) (H : Hp) (m : SM) (x y : V) (dx dy : D) (Q : VK) (E : XK), P dx dy = true → Cov K st S H m → Rep K st S H x dx → Rep K st S H y dy → Out K st S H (g dx dy m) Q E → r x y H Q)
    (h' : ∀ {xi : XI} (st : Stx xi) (S : Addr → Prop) (H : Hp) (m : SM) (x y : V) (dx dy : D) (Q : VK) (E : XK), P dx dy = false → Cov K st S H m → Rep K st S H x dx → Rep K st S H y dy → Out K st S H (g dx dy m) Q E → r' x y H Q) : VR2 K (fun x y H Q => r x y H Q ∨ r' x y H Q) g :=
  fun st S H m x y dx dy Q E cv rx ry o => by
    cases e : P dx dy with
    | true => exact .inl (h st S H m x y dx dy Q E e cv rx ry o)
    | false => exact .inr (h' st S H m x y dx dy Q E e cv rx ry o)
def dI (c : Int → Int → Bool) (f : Int → Int → D) : D → D → M D
  | .int i, .int j => do need (c i j); pure (f i j)
  | _, _ => M.bad
theorem vr_I {C : Int → Int → Prop} {c : Int → Int → Bool} {g : Int → Int → V} {f : Int → Int → D} (hc : ∀ i j, c i j = true → C i j) (hf : ∀ {xi : XI} (st : Stx xi) S H i j, Rep K st S H (g i j) (f i j)) : VR2 K (rI C g) (dI c f) := by
  intro _ st S H m x y dx dy Q E cv rx ry o
  cases rx <;> try exact o.elim
  cases ry <;> try exact o.elim
  rename_i i j
  obtain ⟨h, o⟩ := out_need (P := fun r => Out K st S H r Q E) (fun z => z) o
  exact ⟨i, j, rfl, rfl, hc i j h, out_pure cv o (hf st S H i j)⟩
theorem vr_I0 {g : Int → Int → V} {f : Int → Int → D} (hf : ∀ {xi : XI} (st : Stx xi) S H i j, Rep K st S H (g i j) (f i j)) : VR2 K (rI0 g) (dI (fun _ _ => true) f) := by
  intro _ st S H m x y dx dy Q E cv rx ry o
  cases rx <;> try exact o.elim
  cases ry <;> try exact o.elim
  rename_i i j
  exact ⟨i, j, rfl, rfl, out_pure cv o (hf st S H i j)⟩
abbrev dSub : D → D → M D := dI (fun _ _ => true) fun i j => .int (i - j)
abbrev dLt : D → D → M D := dI (fun _ _ => true) fun i j => .bl (decide (i < j))
abbrev dLe : D → D → M D := dI (fun _ _ => true) fun i j => .bl (decide (i ≤ j))
abbrev dGt : D → D → M D := dI (fun _ _ => true) fun i j => .bl (decide (j < i))
abbrev dGe : D → D → M D := dI (fun _ _ => true) fun i j => .bl (decide (j ≤ i))
abbrev dMod : D → D → M D := dI (fun _ j => decide (0 < j)) fun i j => .int (i % j)
abbrev dDiv : D → D → M D := dI (fun _ j => decide (0 < j ∧ j < 2 ^ 64)) fun i j => .int (i / j)
abbrev dPow : D → D → M D := dI (fun i j => decide (0 ≤ j ∧ j ≤ 1000000 ∧ i.natAbs < 2 ^ 64)) fun i j => .int (i ^ j.toNat)
theorem vr_sub : VR2 K (rI0 fun i j => .int (i - j)) dSub := vr_I0 fun _ _ _ _ _ => .int _
theorem vr_lt : VR2 K (rI0 fun i j => .bl (decide (i < j))) dLt := vr_I0 fun _ _ _ _ _ => .bl _
theorem vr_le : VR2 K (rI0 fun i j => .bl (decide (i ≤ j))) dLe := vr_I0 fun _ _ _ _ _ => .bl _
theorem vr_gt : VR2 K (rI0 fun i j => .bl (decide (j < i))) dGt := vr_I0 fun _ _ _ _ _ => .bl _
theorem vr_ge : VR2 K (rI0 fun i j => .bl (decide (j ≤ i))) dGe := vr_I0 fun _ _ _ _ _ => .bl _
theorem vr_mod : VR2 K (rI (fun _ j => 0 < j) fun i j => .int (i % j)) dMod := vr_I (fun _ _ h => of_decide_eq_true h) fun _ _ _ _ _ => .int _
theorem vr_div : VR2 K (rI CDivW fun i j => .int (i / j)) dDiv := vr_I (fun i j h => by
    obtain ⟨h1, h2⟩ := of_decide_eq_true h
    exact wide_div (b := 64) h1 (by omega) (by decide) (by decide)) fun _ _ _ _ _ => .int _
theorem vr_pow : VR2 K (rI CPow fun i j => .int (i ^ j.toNat)) dPow := vr_I (fun i j h => (of_decide_eq_true h : 0 ≤ j ∧ j ≤ 1000000 ∧ i.natAbs < 2 ^ 64)) fun _ _ _ _ _ => .int _
/-- * : ints (one side below 2^64), a list times an int -/
def dMul : D → D → M D
  | .int i, .int j => do need (decide ((-(2 ^ 64) < i ∧ i < 2 ^ 64) ∨ (-(2 ^ 64) < j ∧ j < 2 ^ 64))); pure (.int (i * j))
  | .lst xs, .int k => do need (decide (-(2 ^ 63) ≤ k ∧ k < 2 ^ 63)); lim (xs.length * k.toNat); pure (.lst (List.replicate k.toNat xs).flatten)
  | _, _ => M.bad
def isLI : D → D → Bool
  | .lst _, .int _ => true
  | _, _ => false
theorem RepL.rep {st : Stx xi} {S : Addr → Prop} {H : Hp} {vs : List V} {ds : List D} (r : RepL K st S H vs ds) : ∀ k : Nat, RepL K st S H (List.replicate k vs).flatten (List.replicate k ds).flatten
  | 0 => .nil
  | k + 1 => by
    rw [List.replicate_succ, List.replicate_succ, List.flatten_cons, List.flatten_cons]
    exact r.append (RepL.rep r k)
theorem vr_mul : VR2 K (fun x y H Q => rRep x y H Q ∨ rI CMul (fun i j => .int (i * j)) x y H Q) dMul := by
  refine VR2.or (P := isLI) (fun st S H m x y dx dy Q E e cv rx ry o => ?_) (fun st S H m x y dx dy Q E e cv rx ry o => ?_)
  · cases rx <;> try exact o.elim
    · cases ry <;> try exact o.elim
      cases e
    · rename_i nS hl r
      cases ry <;> try exact o.elim
      rename_i k
      obtain ⟨h, o⟩ := out_need (P := fun r => Out K st S H r Q E) (fun z => z) o
      obtain ⟨h2, o⟩ := out_lim (P := fun r => Out K st S H r Q E) (fun z => z) o
      obtain ⟨h3, h4⟩ := of_decide_eq_true h
      exact ⟨_, k, _, rfl, rfl, hl, h3, h4, by rw [r.length]; exact h2, out_lst cv o (r.rep k.toNat)⟩
  · cases rx <;> try exact o.elim
    · cases ry <;> try exact o.elim
      rename_i i j
      obtain ⟨h, o⟩ := out_need (P := fun r => Out K st S H r Q E) (fun z => z) o
      exact ⟨i, j, rfl, rfl, (of_decide_eq_true h : (-(2 ^ 64) < i ∧ i < 2 ^ 64) ∨ (-(2 ^ 64) < j ∧ j < 2 ^ 64)), out_pure cv o (.int _)⟩
    · cases ry <;> try exact o.elim
      cases e
/-- + : ints, texts, lists, tuples (the first not empty) -/
def dAdd : D → D → M D
  | .int i, .int j => pure (.int (i + j))
  | .str i, .str j => do lim (i.length + j.length); pure (.str (i ++ j))
  | .lst xs, .lst ys => do lim (xs.length + ys.length); pure (.lst (xs ++ ys))
  | .tup xs, .tup ys => do need (!xs.isEmpty); lim (xs.length + ys.length); pure (.tup (xs ++ ys))
  | _, _ => M.bad
def rAddD (K : PySem.W.Frag) : R2 := fun x y H Q => (rI0 (fun i j => V.int (i + j)) x y H Q) ∨ (∃ i j, x = .str i ∧ y = .str j ∧ i.length + j.length ≤ sizeLine ∧ Q (.str (i ++ j)) H) ∨ rCat x y H Q ∨ rCatN K x y H Q
theorem op_addD {X : Cx} : OpR X (binaryOp .Add) (rAddD X.K) := op_add.or (op_add_str.or (op_cat.or op_catN))
theorem rep_nil {st : Stx xi} {S : Addr → Prop} {H : Hp} {vs : List V} {ds : List D} (r : RepL K st S H vs ds) : vs = [] ↔ ds = [] := by
  cases r <;> simp
theorem vr_add : VR2 K (rAddD K) dAdd := by
  intro _ st S H m x y dx dy Q E cv rx ry o
  have rx0 := rx
  cases rx <;> try exact o.elim
  · cases ry <;> try exact o.elim
    exact .inl ⟨_, _, rfl, rfl, out_pure cv o (.int _)⟩
  · cases ry <;> try exact o.elim
    obtain ⟨h2, o⟩ := out_lim (P := fun r => Out K st S H r Q E) (fun z => z) o
    exact .inr (.inl ⟨_, _, rfl, rfl, h2, out_pure cv o (.str _)⟩)
  · rename_i h r
    cases ry <;> try exact o.elim
    rename_i h' r'
    obtain ⟨h1, o⟩ := out_need (P := fun r => Out K st S H r Q E) (fun z => z) o
    obtain ⟨h2, o⟩ := out_lim (P := fun r => Out K st S H r Q E) (fun z => z) o
    refine .inr (.inr (.inr ⟨_, _, _, _, rfl, rfl, h.sq, h'.sq, ?_, by rw [r.length, r'.length]; exact h2, fun e => ?_, fun _ => out_tup cv o (r.append r')⟩))
    · intro e
      rw [(rep_nil r).mp e] at h1
      cases h1
    · have e2 := (rep_nil r').mp e
      subst e2
      rw [List.append_nil] at o
      exact out_pure cv o rx0
  · rename_i n h r
    cases ry <;> try exact o.elim
    rename_i n' h' r'
    obtain ⟨h2, o⟩ := out_lim (P := fun r => Out K st S H r Q E) (fun z => z) o
    exact .inr (.inr (.inl ⟨_, _, _, _, rfl, rfl, h, h', by rw [r.length, r'.length]; exact h2, out_lst cv o (r.append r')⟩))
mutual
def D.py : D → Option PyData
  | .non => some .none
  | .bl b => some (.bool b)
  | .int i => some (.int i)
  | .str x => some (.str x)
  | .tup xs => (D.pys xs).map .tuple
  | .lst xs => (D.pys xs).map .list
  | _ => none
def D.pys : List D → Option (List PyData)
  | [] => some []
  | d :: ds => match D.py d, D.pys ds with
    | some e, some es => some (e :: es)
    | _, _ => none
end
mutual
theorem Rep.dp {st : Stx xi} {S : Addr → Prop} {H : Hp} : ∀ {v : V} {d : D} {e : PyData}, Rep K st S H v d → d.py = some e → Dp K H v e
  | _, _, _, .non, h => by rw [D.py] at h; cases h; exact .non
  | _, _, _, .bl b, h => by rw [D.py] at h; cases h; exact .bl b
  | _, _, _, .int i, h => by rw [D.py] at h; cases h; exact .int i
  | _, _, _, .str x, h => by rw [D.py] at h; cases h; exact .str x
  | _, _, _, .tup hs r, h => by
    rw [D.py] at h
    obtain ⟨es, h1, h2⟩ := Option.map_eq_some_iff.mp h
    subst h2
    exact .tup hs.sq (RepL.dp r h1)
  | _, _, _, .lst _ hs r, h => by
    rw [D.py] at h
    obtain ⟨es, h1, h2⟩ := Option.map_eq_some_iff.mp h
    subst h2
    exact .lst (SqL.of hs) (RepL.dp r h1)
  | _, _, _, .obj _ _ _, h => by rw [D.py] at h <;> first | cases h | (intros; simp_all)
  | _, _, _, .rng _, h => by rw [D.py] at h <;> first | cases h | (intros; simp_all)
  | _, _, _, .exc _ _ _ _ _ _, h => by rw [D.py] at h <;> first | cases h | (intros; simp_all)
  | _, _, _, .sto _, h => by rw [D.py] at h <;> first | cases h | (intros; simp_all)
  | _, _, _, .scr _, h => by rw [D.py] at h <;> first | cases h | (intros; simp_all)
theorem RepL.dp {st : Stx xi} {S : Addr → Prop} {H : Hp} : ∀ {vs : List V} {ds : List D} {es : List PyData}, RepL K st S H vs ds → D.pys ds = some es → DpAll K H vs es
  | _, _, _, .nil, h => by rw [D.pys] at h; cases h; exact .nil
  | _, _, _, .cons (d := d) (ds := ds) r t, h => by
    rw [D.pys] at h
    cases e1 : d.py with
    | none => rw [e1] at h; simp at h
    | some u =>
      cases e2 : D.pys ds with
      | none => rw [e1, e2] at h; simp at h
      | some us =>
        rw [e1, e2] at h
        simp at h
        subst h
        exact .cons (Rep.dp r e1) (RepL.dp t e2)
end
def dEqB (dx dy : D) : Option Bool := match dx.py, dy.py with
  | some d, some e => if SeqAt.shaped d && SeqAt.shaped e then some (PyData.eqv d e) else none
  | _, _ => none
def dEq (dx dy : D) : M D := match dEqB dx dy with
  | some b => pure (.bl b)
  | none => M.bad
def dNe (dx dy : D) : M D := match dEqB dx dy with
  | some b => pure (.bl (!b))
  | none => M.bad
theorem dEqB_ok {st : Stx xi} {S : Addr → Prop} {H : Hp} {x y : V} {dx dy : D} {b : Bool} (h : dEqB dx dy = some b) (rx : Rep K st S H x dx) (ry : Rep K st S H y dy) : ∃ d e, Dp K H x d ∧ Dp K H y e ∧ SeqAt.shaped d = true ∧ SeqAt.shaped e = true ∧ PyData.eqv d e = b := by
  unfold dEqB at h
  cases e1 : dx.py with
  | none => rw [e1] at h; simp at h
  | some d =>
    cases e2 : dy.py with
    | none => rw [e1, e2] at h; simp at h
    | some e =>
      rw [e1, e2] at h
      cases e3 : (SeqAt.shaped d && SeqAt.shaped e) with
      | false => simp [e3] at h
      | true =>
        simp [e3] at h
        obtain ⟨h3, h4⟩ := Bool.and_eq_true_iff.mp e3
        exact ⟨d, e, rx.dp e1, ry.dp e2, h3, h4, h⟩
theorem vr_eq : VR2 K (rEqD K) dEq := by
  intro _ st S H m x y dx dy Q E cv rx ry o
  unfold dEq at o
  cases h : dEqB dx dy with
  | none => rw [h] at o; exact o.elim
  | some b =>
    rw [h] at o
    obtain ⟨d, e, h1, h2, h3, h4, h5⟩ := dEqB_ok h rx ry
    refine ⟨d, e, h1, h2, h3, h4, ?_⟩
    rw [h5]
    exact out_pure cv o (.bl _)
theorem vr_ne : VR2 K (rNeD K) dNe := by
  intro _ st S H m x y dx dy Q E cv rx ry o
  unfold dNe at o
  cases h : dEqB dx dy with
  | none => rw [h] at o; exact o.elim
  | some b =>
    rw [h] at o
    obtain ⟨d, e, h1, h2, h3, h4, h5⟩ := dEqB_ok h rx ry
    refine ⟨d, e, h1, h2, h3, h4, ?_⟩
    rw [h5]
    exact out_pure cv o (.bl _)
def dIsN : D → D → M D
  | .non, .non => pure (.bl true)
  | _, .non => pure (.bl false)
  | .bl a, .bl b => pure (.bl (decide (a = b)))
  | _, _ => M.bad
def rIsD : R2 := fun x y H Q => (y = .non ∧ Q (.bl (decide (x = .non))) H) ∨ rIsB x y H Q
theorem op_isD {X : Cx} : OpR X (compareOp .Is) rIsD := op_isN.or op_isBl
theorem vr_is : VR2 K rIsD dIsN := by
  intro _ st S H m x y dx dy Q E cv rx ry o
  cases ry with
  | non => cases rx <;> exact .inl ⟨rfl, by first | exact out_pure cv o (.bl _)⟩
  | bl b => cases rx <;> first | exact .inr ⟨_, _, rfl, rfl, out_pure cv o (.bl _)⟩ | exact o.elim
  | _ => cases rx <;> exact o.elim
def D.scal : D → Bool
  | .non => true
  | .bl _ => true
  | .int _ => true
  | .str _ => true
  | _ => false
def D.eqs : D → D → Bool
  | .non, .non => true
  | .bl a, .bl b => a == b
  | .bl a, .int b => (if a then 1 else 0) == b
  | .int a, .bl b => a == (if b then 1 else 0)
  | .int a, .int b => a == b
  | .str a, .str b => a == b
  | _, _ => false
def D.its : D → Option (List D)
  | .tup xs => some xs
  | .lst xs => some xs
  | _ => none
def dInB (x y : D) : Option Bool := match y.its with
  | some xs => if x.scal && xs.all D.scal then some (xs.any fun z => z.eqs x) else none
  | none => none
def dIn (x y : D) : M D := match dInB x y with
  | some b => pure (.bl b)
  | none => M.bad
theorem rep_scal {st : Stx xi} {S : Addr → Prop} {H : Hp} {v : V} {d : D} (r : Rep K st S H v d) (h : d.scal = true) : flatV v = true := by
  cases r <;> first | rfl | cases h
theorem rep_scals {st : Stx xi} {S : Addr → Prop} {H : Hp} : ∀ {vs : List V} {ds : List D}, RepL K st S H vs ds → ds.all D.scal = true → vs.all flatV = true
  | _, _, .nil, _ => rfl
  | _, _, .cons r t, h => by
    rw [List.all_cons] at h ⊢
    obtain ⟨h1, h2⟩ := Bool.and_eq_true_iff.mp h
    rw [rep_scal r h1, rep_scals t h2]; rfl
theorem rep_eqs {st : Stx xi} {S : Addr → Prop} {H : Hp} {v u : V} {d e : D} (r : Rep K st S H v d) (q : Rep K st S H u e) (h : d.scal = true) (h' : e.scal = true) : eqV v u = d.eqs e := by
  cases r <;> first | cases h; done | (cases q <;> first | rfl | cases h')
theorem rep_any {st : Stx xi} {S : Addr → Prop} {H : Hp} {u : V} {e : D} (q : Rep K st S H u e) (h' : e.scal = true) : ∀ {vs : List V} {ds : List D}, RepL K st S H vs ds → ds.all D.scal = true → inV u vs = ds.any fun z => z.eqs e
  | _, _, .nil, _ => rfl
  | _, _, .cons r t, h => by
    rw [List.all_cons] at h
    obtain ⟨h1, h2⟩ := Bool.and_eq_true_iff.mp h
    have e1 := rep_any q h' t h2
    unfold inV at e1 ⊢
    rw [List.any_cons, List.any_cons, e1, rep_eqs r q h1 h']
theorem dInB_ok {st : Stx xi} {S : Addr → Prop} {H : Hp} {x y : V} {dx dy : D} {b : Bool} (h : dInB dx dy = some b) (rx : Rep K st S H x dx) (ry : Rep K st S H y dy) : ∃ p xs, y = .ref p ∧ (SqL K H p xs ∨ SqT K H p xs) ∧ flatV x = true ∧ xs.all flatV = true ∧ inV x xs = b := by
  unfold dInB at h
  cases ry <;> simp [D.its] at h
  · rename_i hs r
    obtain ⟨⟨h1, h2⟩, h3⟩ := h
    have h2' : (List.all _ D.scal) = true := List.all_eq_true.mpr h2
    exact ⟨_, _, rfl, .inr hs.sq, rep_scal rx h1, rep_scals r h2', by rw [rep_any rx h1 r h2']; exact h3⟩
  · rename_i hn hs r
    obtain ⟨⟨h1, h2⟩, h3⟩ := h
    have h2' : (List.all _ D.scal) = true := List.all_eq_true.mpr h2
    exact ⟨_, _, rfl, .inl (SqL.of hs), rep_scal rx h1, rep_scals r h2', by rw [rep_any rx h1 r h2']; exact h3⟩
theorem vr_in : VR2 K (rIn K false) dIn := by
  intro _ st S H m x y dx dy Q E cv rx ry o
  unfold dIn at o
  cases h : dInB dx dy with
  | none => rw [h] at o; exact o.elim
  | some b =>
    rw [h] at o
    obtain ⟨p, xs, e, h1, h2, h3, h4⟩ := dInB_ok h rx ry
    refine ⟨p, xs, e, h1, h2, h3, ?_⟩
    rw [h4]
    exact out_pure cv o (.bl _)
def dIxO : D → D → Option D
  | .lst xs, .int i => atI xs i
  | .tup xs, .int i => atI xs i
  | .scr ns, .int i => (atI ns i).map D.int
  | .str z, .int i => if z.length ≤ 16777216 then (atI z.cps.toList i).map fun c => D.str ⟨#[c]⟩ else none
  | _, _ => none
def ofO (o : Option D) : M D := match o with
  | some d => pure d
  | none => M.bad
/-- what lies in the store -/
def SM.all (m : SM) : List D := .scr m.cs :: m.xs.map D.int
def dIx : D → D → M D
  | .sto, .int i => fun m => ofO (atI m.all i) m
  | x, y => ofO (dIxO x y)
theorem out_ofO {st : Stx xi} {S : Addr → Prop} {H : Hp} {m : SM} {o : Option D} {Q : VK} {E : XK} (h : Out K st S H (ofO o m) Q E) : ∃ d, o = some d ∧ Out K st S H ((pure d : M D) m) Q E := by
  cases o with
  | none => exact h.elim
  | some d => exact ⟨d, rfl, h⟩
theorem rep_atI {st : Stx xi} {S : Addr → Prop} {H : Hp} {vs : List V} {ds : List D} {i : Int} {d : D} (r : RepL K st S H vs ds) (h : atI ds i = some d) : ∃ v, atI vs i = some v ∧ Rep K st S H v d := by
  unfold atI at h ⊢
  rw [r.length]
  cases e : ixN ds.length i with
  | none => rw [e] at h; cases h
  | some j =>
    rw [e] at h
    obtain ⟨v, h1, h2⟩ := r.get (show ds[j]? = some d from h)
    exact ⟨v, h1, h2⟩
theorem atI_map {α β : Type} (f : α → β) (xs : List α) (i : Int) : atI (xs.map f) i = (atI xs i).map f := by
  unfold atI
  rw [List.length_map]
  cases ixN xs.length i with
  | none => rfl
  | some j => simp
theorem repI {st : Stx xi} {S : Addr → Prop} {H : Hp} : ∀ ns : List Int, RepL K st S H (ns.map V.int) (ns.map D.int)
  | [] => .nil
  | n :: ns => .cons (.int n) (repI ns)
theorem vr_ix : VR2 K (rIx K) dIx := by
  intro _ st S H m x y dx dy Q E cv rx ry o
  by_cases hst : dx = .sto
  · subst hst
    cases rx with
    | sto hs =>
    cases ry with
    | int i =>
      obtain ⟨d, e, o2⟩ := out_ofO (show Out K st S H (ofO (atI m.all i) m) Q E from o)
      have sa := cv.sto _ _ hs
      have rl : RepL K st S H (.ref _ :: m.xs.map V.int) m.all := .cons (.scr sa.cs) (repI m.xs)
      obtain ⟨v, h1, h2⟩ := rep_atI rl e
      exact .inl ⟨_, _, i, v, rfl, rfl, SqL.of sa.at_, h1, out_pure cv o2 h2⟩
    | _ => exact o.elim
  replace o : Out K st S H (ofO (dIxO dx dy) m) Q E := by
    cases dx <;> first | exact absurd rfl hst | (cases dy <;> exact o)
  obtain ⟨d, e, o2⟩ := out_ofO o
  clear o
  cases rx <;> try (cases ry <;> cases e; done)
  · cases ry <;> try (cases e; done)
    rename_i z i
    have e' : (if z.length ≤ 16777216 then (atI z.cps.toList i).map fun c => D.str ⟨#[c]⟩ else none) = some d := e
    by_cases hz : z.length ≤ 16777216
    · rw [if_pos hz] at e'
      obtain ⟨c, h, h2⟩ := Option.map_eq_some_iff.mp e'
      subst h2
      exact .inr (.inr ⟨z, i, c, rfl, rfl, by rw [sizeLine_eq]; exact hz, h, out_pure cv o2 (.str _)⟩)
    · rw [if_neg hz] at e'; cases e'
  · rename_i hs r
    cases ry <;> try (cases e; done)
    rename_i xs i
    obtain ⟨v, h1, h2⟩ := rep_atI r (show atI xs i = some d from e)
    exact .inr (.inl ⟨_, _, i, v, rfl, rfl, hs.sq, h1, out_pure cv o2 h2⟩)
  · rename_i hn hs r
    cases ry <;> try (cases e; done)
    rename_i xs i
    obtain ⟨v, h1, h2⟩ := rep_atI r (show atI xs i = some d from e)
    exact .inl ⟨_, _, i, v, rfl, rfl, SqL.of hs, h1, out_pure cv o2 h2⟩
  · rename_i ns hs
    cases ry <;> try (cases e; done)
    rename_i i
    obtain ⟨n, h, h2⟩ := Option.map_eq_some_iff.mp (show (atI ns i).map D.int = some d from e)
    subst h2
    exact .inl ⟨_, _, i, .int n, rfl, rfl, hs.sq, by rw [atI_map, h]; rfl, out_pure cv o2 (.int _)⟩
end
end Den
set_option Elab.async false
set_option linter.all false
set_option maxRecDepth 100000
set_option maxHeartbeats 4000000
namespace Den
open PySem PySem.Spec PyProof.Rows L2
def OutL (K : PySem.W.Frag) (st : Stx xi) (S : Addr → Prop) (H : Hp) (r : R (List D)) (Q : List V → Hp → Prop) (E : XK) : Prop := match r with
  | .ok ds m' => ∀ vs H', Chg (atSt st) H H' → Cov K st S H' m' → RepL K st S H' vs ds → Q vs H'
  | .err c fs m' => ∀ dd fv H', Chg (atSt st) H H' → Cov K st S H' m' → H' dd = some (.xd fv) → H dd = none → RepF K st S H' fv fs → E (.ref (He.ga K c)) (some dd) H'
  | .bad => False
def TAD (xi : XI) (K : PySem.W.Frag) (W : WX) (A : EV → M (List D)) : L2.TA := fun σ H Q => ∃ (st : Stx xi) (S : Addr → Prop) (ρ : EV) (m : SM), Cov K st S H m ∧ EnvR K st S H σ ρ ∧ OutL K st S H (A ρ m) Q (WE W σ)
structure SA (X : Cx) (W : WX) (es : List Expr) (A : EV → M (List D)) : Prop where
  pa : PA X es (TAD X.xi X.K W A)
theorem PA.imp {X : Cx} {es : List Expr} {t t' : L2.TA} (h : PA X es t) (i : ∀ σ H Q, t' σ H Q → t σ H Q) : PA X es t' := ⟨fun pos pins s σ H Q I q => h.run pos pins s σ H Q I (i σ H Q q)⟩
theorem OutL.chg {K : PySem.W.Frag} {st : Stx xi} {S : Addr → Prop} {H H1 : Hp} {r : R (List D)} {Q : List V → Hp → Prop} {E : XK} (o : OutL K st S H r Q E) (c : Chg (atSt st) H H1) : OutL K st S H1 r Q E := by
  cases r with
  | ok d m' => exact fun v H' c' => o v H' (c.trans c')
  | err k fs m' => exact fun dd fv H' c' cv h1 h2 => o dd fv H' (c.trans c') cv h1 (c.free h2)
  | bad => exact o
section
variable {X : Cx} {W : WX} {pos : Pos}
theorem TE.bindL {K : PySem.W.Frag} {F : EV → M D} {G : D → EV → M (List D)} {σ : L2.St} {H : Hp} {Q : List V → Hp → Prop} {R : V → Hp → Prop} {st : Stx xi} {S : Addr → Prop} {ρ : EV} {m : SM}
    (cv : Cov K st S H m) (er : EnvR K st S H σ ρ) (o : OutL K st S H ((F ρ >>= fun d => G d ρ) m) Q (WE W σ))
    (k : ∀ v d m1 H1, Chg (atSt st) H H1 → Cov K st S H1 m1 → EnvR K st S H1 σ ρ → Rep K st S H1 v d → OutL K st S H1 (G d ρ m1) Q (WE W σ) → R v H1) : TE xi K W F σ H R := by
  refine ⟨st, S, ρ, m, cv, er, ?_⟩
  rw [bind_run] at o
  cases e : F ρ m with
  | ok d m1 =>
    rw [e] at o
    exact fun v H1 c cv1 r => k v d m1 H1 c cv1 (er.mono c cv.sub) r (OutL.chg o c)
  | err c fs m1 =>
    rw [e] at o
    exact o
  | bad =>
    rw [e] at o
    exact o.elim
theorem TAD.bind {K : PySem.W.Frag} {A : EV → M (List D)} {G : List D → EV → M D} {σ : L2.St} {H : Hp} {Q : VK} {R : List V → Hp → Prop} {st : Stx xi} {S : Addr → Prop} {ρ : EV} {m : SM}
    (cv : Cov K st S H m) (er : EnvR K st S H σ ρ) (o : Out K st S H ((A ρ >>= fun d => G d ρ) m) Q (WE W σ))
    (k : ∀ vs ds m1 H1, Chg (atSt st) H H1 → Cov K st S H1 m1 → EnvR K st S H1 σ ρ → RepL K st S H1 vs ds → Out K st S H1 (G ds ρ m1) Q (WE W σ) → R vs H1) : TAD xi K W A σ H R := by
  refine ⟨st, S, ρ, m, cv, er, ?_⟩
  rw [bind_run] at o
  cases e : A ρ m with
  | ok d m1 =>
    rw [e] at o
    exact fun v H1 c cv1 r => k v d m1 H1 c cv1 (er.mono c cv.sub) r (Out.chg o c)
  | err c fs m1 =>
    rw [e] at o
    exact o
  | bad =>
    rw [e] at o
    exact o.elim
theorem sa_nil : SA X W [] (fun _ => pure []) := ⟨PA.imp pa_nil fun σ H Q ⟨st, S, ρ, m, cv, er, o⟩ => o [] H (Chg.refl H) cv .nil⟩
theorem sa_cons {e : Expr} {es : List Expr} {F : EV → M D} {A : EV → M (List D)} (ha : SE X W e F) (hr : SA X W es A) (hs : starEach (e :: es) X.env = (false, eval e X.env) :: starEach es X.env := by rfl) :
    SA X W (e :: es) (fun ρ => do let d ← F ρ; let ds ← A ρ; pure (d :: ds)) := by
  refine ⟨PA.imp (pa_cons ha.pe hr.pa hs) fun σ H Q ⟨st, S, ρ, m, cv, er, o⟩ => ?_⟩
  refine TE.bindL (G := fun d ρ => do let ds ← A ρ; pure (d :: ds)) cv er o fun v d m1 H1 c1 cv1 er1 r1 o1 => ?_
  refine ⟨st, S, ρ, m1, cv1, er1, ?_⟩
  rw [bind_run] at o1
  cases e1 : A ρ m1 with
  | ok ds m2 =>
    rw [e1] at o1
    exact fun vs H2 c2 cv2 r2 => o1 _ H2 c2 cv2 (.cons (r1.mono c2 cv1.sub fun _ z => z) r2)
  | err c fs m2 =>
    rw [e1] at o1
    exact o1
  | bad => rw [e1] at o1; exact o1.elim
theorem se_tup {es : List Expr} {x1} {A : EV → M (List D)} (h : SA X W es A) : SE X W (.Tuple es x1 pos) (fun ρ => do let ds ← A ρ; lim ds.length; pure (.tup ds)) := by
  refine .imp (pe_tupN h.pa) fun σ H Q ⟨st, S, ρ, m, cv, er, o⟩ => ?_
  refine TAD.bind (G := fun ds _ => do lim ds.length; pure (.tup ds)) cv er o fun vs ds m1 H1 c1 cv1 er1 r1 o1 => ?_
  obtain ⟨h2, o2⟩ := out_lim (P := fun r => Out X.K st S H1 r Q (WE W σ)) (fun z => z) o1
  exact ⟨by rw [r1.length]; exact h2, out_tup cv1 o2 r1⟩
def OutF (K : PySem.W.Frag) (st : Stx xi) (S : Addr → Prop) (H : Hp) (r : R (List D)) (Q : VK) (E : XK) : Prop := match r with
  | .ok ds m' => ∀ p vs H', H p = none → Chg (atSt st) H H' → Cov K st S H' m' → H' p = some (.lst vs) → RepL K st (fun a => S a ∨ a = p) H' vs ds → Q (.ref p) H'
  | .err c fs m' => ∀ dd fv H', Chg (atSt st) H H' → Cov K st S H' m' → H' dd = some (.xd fv) → H dd = none → RepF K st S H' fv fs → E (.ref (He.ga K c)) (some dd) H'
  | .bad => False
def TF (xi : XI) (K : PySem.W.Frag) (W : WX) (L : EV → M (List D)) : L2.TE := fun σ H Q => ∃ (st : Stx xi) (S : Addr → Prop) (ρ : EV) (m : SM), Cov K st S H m ∧ EnvR K st S H σ ρ ∧ OutF K st S H (L ρ m) Q (WE W σ)
structure SF (X : Cx) (W : WX) (e : Expr) (L : EV → M (List D)) : Prop where
  pe : PE X e (TF X.xi X.K W L)
theorem SF.imp {e : Expr} {L : EV → M (List D)} {t : L2.TE} (h : PE X e t) (i : ∀ σ H Q, TF X.xi X.K W L σ H Q → t σ H Q) : SF X W e L := ⟨PE.imp h i⟩
theorem OutF.chg {K : PySem.W.Frag} {st : Stx xi} {S : Addr → Prop} {H H1 : Hp} {r : R (List D)} {Q : VK} {E : XK} (o : OutF K st S H r Q E) (c : Chg (atSt st) H H1) : OutF K st S H1 r Q E := by
  cases r with
  | ok d m' => exact fun p v H' n c' => o p v H' (c.free n) (c.trans c')
  | err k fs m' => exact fun dd fv H' c' cv h1 h2 => o dd fv H' (c.trans c') cv h1 (c.free h2)
  | bad => exact o
theorem se_new {e : Expr} {L : EV → M (List D)} (h : SF X W e L) : SE X W e (fun ρ => do let xs ← L ρ; pure (.lst xs)) := by
  refine .imp h.pe fun σ H Q ⟨st, S, ρ, m, cv, er, o⟩ => ?_
  refine ⟨st, S, ρ, m, cv, er, ?_⟩
  replace o : Out X.K st S H ((L ρ >>= fun xs => pure (.lst xs)) m) Q (WE W σ) := o
  rw [bind_run] at o
  cases e1 : L ρ m with
  | ok ds m1 =>
    rw [e1] at o
    exact fun p vs H' n c cv1 hp r => o _ H' c cv1 (.lst (cv.out n) hp (r.mono (B := noB) (Chg.refl H') (fun _ z => z.elim) fun _ z => .inl z))
  | err c fs m1 => rw [e1] at o; exact o
  | bad => rw [e1] at o; exact o.elim
theorem TE.bindF {K : PySem.W.Frag} {F : EV → M D} {G : D → EV → M (List D)} {σ : L2.St} {H : Hp} {Q : VK} {R : V → Hp → Prop} {st : Stx xi} {S : Addr → Prop} {ρ : EV} {m : SM}
    (cv : Cov K st S H m) (er : EnvR K st S H σ ρ) (o : OutF K st S H ((F ρ >>= fun d => G d ρ) m) Q (WE W σ))
    (k : ∀ v d m1 H1, Chg (atSt st) H H1 → Cov K st S H1 m1 → EnvR K st S H1 σ ρ → Rep K st S H1 v d → OutF K st S H1 (G d ρ m1) Q (WE W σ) → R v H1) : TE xi K W F σ H R := by
  refine ⟨st, S, ρ, m, cv, er, ?_⟩
  rw [bind_run] at o
  cases e : F ρ m with
  | ok d m1 =>
    rw [e] at o
    exact fun v H1 c cv1 r => k v d m1 H1 c cv1 (er.mono c cv.sub) r (OutF.chg o c)
  | err c fs m1 => rw [e] at o; exact o
  | bad => rw [e] at o; exact o.elim
theorem TAD.bindF {K : PySem.W.Frag} {A : EV → M (List D)} {G : List D → EV → M (List D)} {σ : L2.St} {H : Hp} {Q : VK} {R : List V → Hp → Prop} {st : Stx xi} {S : Addr → Prop} {ρ : EV} {m : SM}
    (cv : Cov K st S H m) (er : EnvR K st S H σ ρ) (o : OutF K st S H ((A ρ >>= fun d => G d ρ) m) Q (WE W σ))
    (k : ∀ vs ds m1 H1, Chg (atSt st) H H1 → Cov K st S H1 m1 → EnvR K st S H1 σ ρ → RepL K st S H1 vs ds → OutF K st S H1 (G ds ρ m1) Q (WE W σ) → R vs H1) : TAD xi K W A σ H R := by
  refine ⟨st, S, ρ, m, cv, er, ?_⟩
  rw [bind_run] at o
  cases e : A ρ m with
  | ok d m1 =>
    rw [e] at o
    exact fun v H1 c cv1 r => k v d m1 H1 c cv1 (er.mono c cv.sub) r (OutF.chg o c)
  | err c fs m1 => rw [e] at o; exact o
  | bad => rw [e] at o; exact o.elim
/-- the end of a rule that lays a list -/
theorem out_new {K : PySem.W.Frag} {st : Stx xi} {S : Addr → Prop} {H : Hp} {m : SM} {vs : List V} {ds : List D} {Q : VK} {E : XK} (cv : Cov K st S H m) (o : OutF K st S H ((pure ds : M (List D)) m) Q E) (r : RepL K st S H vs ds) : ∀ p, H p = none → Q (.ref p) (upd H p (.lst vs)) :=
  fun p n => o p vs _ n (Chg.new n) (cv.new n) upd_same (RepL.new (r.wide fun a z => z.imp id fun q => by rw [q]; exact n) n)
theorem sf_lst {es : List Expr} {A : EV → M (List D)} (h : SA X W es A) : SF X W (.List es pos) (fun ρ => do let ds ← A ρ; lim ds.length; pure ds) := by
  refine .imp (pe_lst h.pa) fun σ H Q ⟨st, S, ρ, m, cv, er, o⟩ => ?_
  refine TAD.bindF (G := fun ds _ => do lim ds.length; pure ds) cv er o fun vs ds m1 H1 c1 cv1 er1 r1 o1 => ?_
  obtain ⟨h2, o2⟩ := out_lim (P := fun r => OutF X.K st S H1 r Q (WE W σ)) (fun z => z) o1
  exact ⟨by rw [r1.length]; exact h2, out_new cv1 o2 r1⟩
variable {es : List Expr} {e : Expr} {A : EV → M (List D)} {x : Str} {p : Pos} {k : Nat} {f : Addr} {fd : FuncData} {ps : List Str}
theorem se_call {g : List D → M D} (tk : Takes X W) (F : FnOk X.prog X.w X.K X.mg X.base (L2N.CX X.prog X.w) k f fd ps (spOf X.K g)) (hr : Room k X.A) (hg : Gl X x) (hm : X.mg x = some (.ref f)) (hk : PySem.W.keepIn X.K (.ref f) = true) (hb : Binds X.K fd ps []) (ha : SA X W (e :: es) A)
    (hdb : (x == ("__debug__" : Str)) = false := by decide) (he : starEach (e :: es) X.env = (false, eval e X.env) :: starEach es X.env := by rfl) (hpl : (backTo pos (starEach es X.env)).any (·.1) = false := by rfl) :
    SE X W (.Call (.Name x p) (e :: es) [] pos) (fun ρ => do let ds ← A ρ; g ds) := by
  refine .imp (pe_callS (E := WE W) F hr hg hm hk hb (fun σ => passAt tk σ) ha.pa hdb he hpl) fun σ H Q h => ?_
  rw [xi_room hr] at h ⊢
  obtain ⟨st, S, ρ, m, cv, er, o⟩ := h
  exact TAD.bind (G := fun ds _ => g ds) cv er o fun vs ds m1 H1 c1 cv1 er1 r1 o1 => ⟨st, S, ds, m1, cv1, r1, o1⟩
theorem se_callB {id : String} {r : List V → Hp → VK → Prop} (g : List D → M D) (hc : CallR X (.builtin id) r) (hr : VRL X.K r g) (hg : Gl X x) (hm : X.mg x = none) (hv : bootBuiltins x = some (.builtin id)) (ha : SA X W (e :: es) A) (hn : x ≠ "__name__" := by decide) (hdb : (x == ("__debug__" : Str)) = false := by decide)
    (he : starEach (e :: es) X.env = (false, eval e X.env) :: starEach es X.env := by rfl) (hpl : (backTo pos (starEach es X.env)).any (·.1) = false := by rfl) : SE X W (.Call (.Name x p) (e :: es) [] pos) (fun ρ => do let ds ← A ρ; g ds) := by
  refine .imp (pe_callB hc hg hm hv ha.pa hn hdb he hpl) fun σ H Q ⟨st, S, ρ, m, cv, er, o⟩ => ?_
  exact TAD.bind (G := fun ds _ => g ds) cv er o fun vs ds m1 H1 c1 cv1 er1 r1 o1 => hr st S H1 m1 vs ds Q _ cv1 r1 o1
theorem se_callT {T : String} {r : List V → Hp → VK → Prop} (g : List D → M D) (hc : CallR X (.type T) r) (hr : VRL X.K r g) (hg : Gl X x) (hm : X.mg x = none) (hv : bootBuiltins x = some (.type T)) (ha : SA X W (e :: es) A) (hn : x ≠ "__name__" := by decide) (hdb : (x == ("__debug__" : Str)) = false := by decide)
    (he : starEach (e :: es) X.env = (false, eval e X.env) :: starEach es X.env := by rfl) (hpl : (backTo pos (starEach es X.env)).any (·.1) = false := by rfl) : SE X W (.Call (.Name x p) (e :: es) [] pos) (fun ρ => do let ds ← A ρ; g ds) := by
  refine .imp (pe_callTy hc hg hm hv ha.pa hn hdb he hpl) fun σ H Q ⟨st, S, ρ, m, cv, er, o⟩ => ?_
  exact TAD.bind (G := fun ds _ => g ds) cv er o fun vs ds m1 H1 c1 cv1 er1 r1 o1 => hr st S H1 m1 vs ds Q _ cv1 r1 o1
end
section
variable {K : PySem.W.Frag}
theorem repL1 {st : Stx xi} {S : Addr → Prop} {H : Hp} {vs : List V} {d : D} (r : RepL K st S H vs [d]) : ∃ v, vs = [v] ∧ Rep K st S H v d := by
  cases r with
  | cons h t => cases t; exact ⟨_, rfl, h⟩
theorem repL2 {st : Stx xi} {S : Addr → Prop} {H : Hp} {vs : List V} {d e : D} (r : RepL K st S H vs [d, e]) : ∃ v u, vs = [v, u] ∧ Rep K st S H v d ∧ Rep K st S H u e := by
  cases r with
  | cons h t => obtain ⟨u, e1, r1⟩ := repL1 t; subst e1; exact ⟨_, u, rfl, h, r1⟩
def dLen1 : D → Option Int
  | .str y => if y.length ≤ 16777216 then some (y.length : Int) else none
  | .tup xs => some xs.length
  | .lst xs => some xs.length
  | .scr ns => some ns.length
  | _ => none
def dLen : List D → M D
  | [d] => ofO ((dLen1 d).map .int)
  | _ => M.bad
theorem vr_len : VRL K (fun xs H Q => ∃ x n, xs = [x] ∧ LenV K x H n ∧ Q (.int n) H) dLen := by
  intro _ st S H m xs ds Q E cv r o
  cases ds with
  | nil => exact o.elim
  | cons d ds =>
    cases ds with
    | cons _ _ => exact o.elim
    | nil =>
      obtain ⟨v, rfl, rv⟩ := repL1 r
      obtain ⟨u, h, o2⟩ := out_ofO o
      clear o
      obtain ⟨n, h1, h2⟩ := Option.map_eq_some_iff.mp h
      subst h2
      cases rv <;> try (cases h1; done)
      · rename_i y
        have e' : (if y.length ≤ 16777216 then some (y.length : Int) else none) = some n := h1
        by_cases hz : y.length ≤ 16777216
        · rw [if_pos hz] at e'; cases e'
          exact ⟨_, y.length, rfl, ⟨by rw [sizeLine_eq]; exact hz, rfl⟩, out_pure cv o2 (.int _)⟩
        · rw [if_neg hz] at e'; cases e'
      · rename_i hs rr
        cases h1
        refine ⟨_, _, rfl, .inr ⟨_, hs.sq, rfl⟩, ?_⟩
        rw [rr.length]
        exact out_pure cv o2 (.int _)
      · rename_i hn hs rr
        cases h1
        refine ⟨_, _, rfl, .inl ⟨_, SqL.of hs, rfl⟩, ?_⟩
        rw [rr.length]
        exact out_pure cv o2 (.int _)
      · rename_i hs
        cases h1
        refine ⟨_, _, rfl, .inl ⟨_, hs.sq, rfl⟩, ?_⟩
        rw [List.length_map]
        exact out_pure cv o2 (.int _)
def dTuple : List D → M D
  | [.tup xs] => pure (.tup xs)
  | [.lst xs] => pure (.tup xs)
  | _ => M.bad
theorem vr_tuple : VRL K (rTupN K) dTuple := by
  intro _ st S H m xs ds Q E cv r o
  cases ds with
  | nil => exact o.elim
  | cons d ds =>
    cases ds with
    | cons _ _ => cases d <;> exact o.elim
    | nil =>
      obtain ⟨v, rfl, rv⟩ := repL1 r
      cases d <;> try exact o.elim
      · cases rv with
        | tup hs rr => exact ⟨_, _, rfl, .inr ⟨hs.sq, out_pure cv o (.tup hs rr)⟩⟩
      · cases rv with
        | lst hn hs rr => exact ⟨_, _, rfl, .inl ⟨SqL.of hs, out_tup cv o rr⟩⟩
def dInt : List D → M D
  | [.int i] => pure (.int i)
  | [.bl b] => pure (.int (if b then 1 else 0))
  | _ => M.bad
theorem vr_int : VRL K (fun xs H Q => (∃ i, xs = [.int i] ∧ Q (.int i) H) ∨ ∃ k, xs = [.bl k] ∧ Q (.int (if k then 1 else 0)) H) dInt := by
  intro _ st S H m xs ds Q E cv r o
  cases ds with
  | nil => exact o.elim
  | cons d ds =>
    cases ds with
    | cons _ _ => cases d <;> exact o.elim
    | nil =>
      obtain ⟨v, rfl, rv⟩ := repL1 r
      cases d <;> try exact o.elim
      · cases rv; exact .inr ⟨_, rfl, out_pure cv o (.int _)⟩
      · cases rv; exact .inl ⟨_, rfl, out_pure cv o (.int _)⟩
def dMin : List D → M D
  | [.int i, .int j] => pure (.int (if j < i then j else i))
  | _ => M.bad
def dMax : List D → M D
  | [.int i, .int j] => pure (.int (if j > i then j else i))
  | _ => M.bad
theorem two_ints {f : Int → Int → D} {g : List D → M D} (hg : ∀ ds : List D, (∃ i j, ds = [.int i, .int j] ∧ g ds = pure (f i j)) ∨ g ds = M.bad) {h : Int → Int → V} (hf : ∀ {xi : XI} (st : Stx xi) S H i j, Rep K st S H (h i j) (f i j)) : VRL K (fun xs H Q => ∃ i j, xs = [.int i, .int j] ∧ Q (h i j) H) g := by
  intro _ st S H m xs ds Q E cv r o
  rcases hg ds with ⟨i, j, rfl, e⟩ | e
  · rw [e] at o
    obtain ⟨v, u, rfl, r1, r2⟩ := repL2 r
    cases r1; cases r2
    exact ⟨i, j, rfl, out_pure cv o (hf st S H i j)⟩
  · rw [e] at o; exact o.elim
theorem dMin_or (ds : List D) : (∃ i j, ds = [.int i, .int j] ∧ dMin ds = pure (.int (if j < i then j else i))) ∨ dMin ds = M.bad := by
  unfold dMin
  split
  · exact .inl ⟨_, _, rfl, rfl⟩
  · exact .inr rfl
theorem dMax_or (ds : List D) : (∃ i j, ds = [.int i, .int j] ∧ dMax ds = pure (.int (if j > i then j else i))) ∨ dMax ds = M.bad := by
  unfold dMax
  split
  · exact .inl ⟨_, _, rfl, rfl⟩
  · exact .inr rfl
theorem vr_min : VRL K (fun xs H Q => ∃ i j, xs = [.int i, .int j] ∧ Q (.int (if j < i then j else i)) H) dMin := two_ints (f := fun i j => .int (if j < i then j else i)) dMin_or fun _ _ _ _ _ => .int _
theorem vr_max : VRL K (fun xs H Q => ∃ i j, xs = [.int i, .int j] ∧ Q (.int (if j > i then j else i)) H) dMax := two_ints (f := fun i j => .int (if j > i then j else i)) dMax_or fun _ _ _ _ _ => .int _
/-- a list of bools -/
def D.bools : List D → Option (List Bool)
  | [] => some []
  | .bl b :: ds => (D.bools ds).map (b :: ·)
  | _ => none
theorem rep_bools {st : Stx xi} {S : Addr → Prop} {H : Hp} : ∀ {vs : List V} {ds : List D} {bs : List Bool}, RepL K st S H vs ds → D.bools ds = some bs → vs = bs.map V.bl
  | _, _, _, .nil, h => by cases h; rfl
  | _, _, bs, .cons (d := d) r t, h => by
    cases d <;> try (cases h; done)
    obtain ⟨cs, h1, h2⟩ := Option.map_eq_some_iff.mp (show (D.bools _).map _ = some bs from h)
    subst h2
    cases r
    rw [rep_bools t h1]; rfl
def dAll : List D → M D
  | [.lst xs] => ofO ((D.bools xs).map fun bs => .bl (bs.all id))
  | _ => M.bad
def dAny : List D → M D
  | [.lst xs] => ofO ((D.bools xs).map fun bs => .bl (bs.any id))
  | _ => M.bad
theorem vr_bools {g : List D → M D} {h : List Bool → Bool} (hg : ∀ ds : List D, (∃ xs, ds = [.lst xs] ∧ g ds = ofO ((D.bools xs).map fun bs => .bl (h bs))) ∨ g ds = M.bad) : VRL K (fun vs H Q => ∃ (a : Addr) (bs : List Bool), vs = [V.ref a] ∧ SqL K H a (bs.map V.bl) ∧ Q (.bl (h bs)) H) g := by
  intro _ st S H m xs ds Q E cv r o
  rcases hg ds with ⟨xs, rfl, e⟩ | e
  · rw [e] at o
    obtain ⟨v, rfl, r1⟩ := repL1 r
    obtain ⟨u, h1, o2⟩ := out_ofO o
    obtain ⟨bs, h2, h3⟩ := Option.map_eq_some_iff.mp h1
    subst h3
    cases r1 with
    | lst hn hs rr =>
      have e2 := rep_bools rr h2
      subst e2
      exact ⟨_, bs, rfl, SqL.of hs, out_pure cv o2 (.bl _)⟩
  · rw [e] at o; exact o.elim
theorem vr_all : VRL K (rAll K) dAll := vr_bools (h := fun bs => bs.all id) fun ds => by
  unfold dAll
  split
  · exact .inl ⟨_, rfl, rfl⟩
  · exact .inr rfl
theorem vr_any : VRL K (rAny K) dAny := vr_bools (h := fun bs => bs.any id) fun ds => by
  unfold dAny
  split
  · exact .inl ⟨_, rfl, rfl⟩
  · exact .inr rfl
end
end Den
set_option Elab.async false
set_option linter.all false
set_option maxRecDepth 100000
set_option maxHeartbeats 4000000
namespace Den
open PySem PySem.Spec PyProof.Rows L2
/-- one thing (pr = false), or a new pair of two things, told as a tuple of the two (pr = true) -/
@[reducible] def RepW (pr : Bool) (K : PySem.W.Frag) (st : Stx xi) (S : Addr → Prop) (H : Hp) (v : V) (d : D) : Prop := match pr with
  | false => Rep K st S H v d
  | true => ∃ (T : Addr) (x y : V) (d1 d2 : D), v = .ref T ∧ d = .tup [d1, d2] ∧ SqT K H T [x, y] ∧ Rep K st S H x d1 ∧ Rep K st S H y d2
/-- the iterator J gives the things ds while its sources stand -/
structure WalkD (pr : Bool) (K : PySem.W.Frag) (st : Stx xi) (J : It) (ds : List D) (vs0 : List V) (ds0 : List D) : Prop where
  goes : ∀ (S : Addr → Prop) (H : Hp) (i : Nat), i < ds.length → RepL K st S H vs0 ds0 → J.go i H
  stops : ∀ (S : Addr → Prop) (H : Hp), RepL K st S H vs0 ds0 → J.stop ds.length H
  yields : ∀ (S : Addr → Prop) (H : Hp) (i : Nat) (x : V) (H' : Hp), i < ds.length → RepL K st S H vs0 ds0 → J.yld i H x H' → ∃ d, ds[i]? = some d ∧ Chg noB H H' ∧ RepW pr K st S H' x d
def OutI (pr : Bool) (K : PySem.W.Frag) (st : Stx xi) (S : Addr → Prop) (H : Hp) (r : R (List D)) (Q : It → Hp → Prop) (E : XK) : Prop := match r with
  | .ok ds m' => ∀ J vs0 ds0 H', Chg (atSt st) H H' → Cov K st S H' m' → RepL K st S H' vs0 ds0 → WalkD pr K st J ds vs0 ds0 → Q J H'
  | .err c fs m' => ∀ dd fv H', Chg (atSt st) H H' → Cov K st S H' m' → H' dd = some (.xd fv) → H dd = none → RepF K st S H' fv fs → E (.ref (He.ga K c)) (some dd) H'
  | .bad => False
def TID (pr : Bool) (xi : XI) (K : PySem.W.Frag) (W : WX) (I : EV → M (List D)) : L2.TI := fun σ H Q => ∃ (st : Stx xi) (S : Addr → Prop) (ρ : EV) (m : SM), Cov K st S H m ∧ EnvR K st S H σ ρ ∧ OutI pr K st S H (I ρ m) Q (WE W σ)
structure SI (pr : Bool) (X : Cx) (W : WX) (tg e : Expr) (I : EV → M (List D)) : Prop where
  pi : PI X tg e (TID pr X.xi X.K W I)
theorem OutI.chg {pr : Bool} {K : PySem.W.Frag} {st : Stx xi} {S : Addr → Prop} {H H1 : Hp} {r : R (List D)} {Q : It → Hp → Prop} {E : XK} (o : OutI pr K st S H r Q E) (c : Chg (atSt st) H H1) : OutI pr K st S H1 r Q E := by
  cases r with
  | ok d m' => exact fun J v w H' c' => o J v w H' (c.trans c')
  | err k fs m' => exact fun dd fv H' c' cv h1 h2 => o dd fv H' (c.trans c') cv h1 (c.free h2)
  | bad => exact o
section
variable {X : Cx} {W : WX} {pos : Pos} {tg : Expr}
theorem TE.bindI {pr : Bool} {K : PySem.W.Frag} {F : EV → M D} {G : D → EV → M (List D)} {σ : L2.St} {H : Hp} {Q : It → Hp → Prop} {R : V → Hp → Prop} {st : Stx xi} {S : Addr → Prop} {ρ : EV} {m : SM}
    (cv : Cov K st S H m) (er : EnvR K st S H σ ρ) (o : OutI pr K st S H ((F ρ >>= fun d => G d ρ) m) Q (WE W σ))
    (k : ∀ v d m1 H1, F ρ m = .ok d m1 → Chg (atSt st) H H1 → Cov K st S H1 m1 → EnvR K st S H1 σ ρ → Rep K st S H1 v d → OutI pr K st S H1 (G d ρ m1) Q (WE W σ) → R v H1) : TE xi K W F σ H R := by
  refine ⟨st, S, ρ, m, cv, er, ?_⟩
  rw [bind_run] at o
  cases e : F ρ m with
  | ok d m1 =>
    rw [e] at o
    exact fun v H1 c cv1 r => k v d m1 H1 e c cv1 (er.mono c cv.sub) r (OutI.chg o c)
  | err c fs m1 => rw [e] at o; exact o
  | bad => rw [e] at o; exact o.elim
/-- the things of a list, a tuple, a text -/
def dIts : D → M (List D)
  | .lst xs => pure xs
  | .tup xs => pure xs
  | .scr ns => pure (ns.map .int)
  | .str z => pure (z.cps.toList.map fun c => .str ⟨#[c]⟩)
  | .rng i j => do need (decide (-(2 ^ 62) ≤ i ∧ i < 2 ^ 62 ∧ -(2 ^ 62) ≤ j ∧ j < 2 ^ 62)); pure ((List.range (j - i).toNat).map fun k => .int (i + (k : Nat)))
  | _ => M.bad
theorem walkD_list {K : PySem.W.Frag} {st : Stx xi} {a : Addr} {ds : List D} : WalkD false K st (Itl K a) ds [.ref a] [.lst ds] where
  goes := fun S H i hi r => by
    obtain ⟨v, e, rv⟩ := repL1 r
    cases e
    cases rv with
    | lst hn hs rr =>
      obtain ⟨v, h1, h2⟩ := rr.get (i := i) (d := ds[i]) (by simp [hi])
      exact ⟨_, v, SqL.of hs, h1⟩
  stops := fun S H r => by
    obtain ⟨v, e, rv⟩ := repL1 r
    cases e
    cases rv with
    | lst hn hs rr => exact ⟨_, SqL.of hs, by rw [rr.length]; exact Nat.le_refl _⟩
  yields := fun S H i x H' hi r y => by
    obtain ⟨v, e, rv⟩ := repL1 r
    cases e
    cases rv with
    | lst hn hs rr =>
      obtain ⟨e, y⟩ := y
      subst e
      obtain ⟨d, h1, h2⟩ := rr.getV (y _ (SqL.of hs))
      exact ⟨d, h1, Chg.refl _, h2⟩
theorem walkD_tup {K : PySem.W.Frag} {st : Stx xi} {a : Addr} {ds : List D} : WalkD false K st (Itt K a) ds [.ref a] [.tup ds] where
  goes := fun S H i hi r => by
    obtain ⟨v, e, rv⟩ := repL1 r
    cases e
    cases rv with
    | tup hs rr =>
      obtain ⟨v, h1, h2⟩ := rr.get (i := i) (d := ds[i]) (by simp [hi])
      exact ⟨_, v, hs.sq, h1⟩
  stops := fun S H r => by
    obtain ⟨v, e, rv⟩ := repL1 r
    cases e
    cases rv with
    | tup hs rr => exact ⟨_, hs.sq, by rw [rr.length]; exact Nat.le_refl _⟩
  yields := fun S H i x H' hi r y => by
    obtain ⟨v, e, rv⟩ := repL1 r
    cases e
    cases rv with
    | tup hs rr =>
      obtain ⟨e, y⟩ := y
      subst e
      obtain ⟨d, h1, h2⟩ := rr.getV (y _ hs.sq)
      exact ⟨d, h1, Chg.refl _, h2⟩
theorem walkD_scr {K : PySem.W.Frag} {st : Stx xi} {a : Addr} {ns : List Int} : WalkD false K st (Itl K a) (ns.map .int) [.ref a] [.scr ns] where
  goes := fun S H i hi r => by
    obtain ⟨v, e, rv⟩ := repL1 r
    cases e
    cases rv with
    | scr hs =>
      rw [List.length_map] at hi
      exact ⟨_, .int ns[i], hs.sq, by simp [hi]⟩
  stops := fun S H r => by
    obtain ⟨v, e, rv⟩ := repL1 r
    cases e
    cases rv with
    | scr hs => exact ⟨_, hs.sq, by simp⟩
  yields := fun S H i x H' hi r y => by
    obtain ⟨v, e, rv⟩ := repL1 r
    cases e
    cases rv with
    | scr hs =>
      obtain ⟨e, y⟩ := y
      subst e
      have q := y _ hs.sq
      rw [List.getElem?_map] at q
      obtain ⟨n, h1, h2⟩ := Option.map_eq_some_iff.mp q
      subst h2
      exact ⟨.int n, by rw [List.getElem?_map, h1]; rfl, Chg.refl _, Rep.int n⟩
theorem walkD_str {K : PySem.W.Frag} {st : Stx xi} {z : Str} : WalkD false K st (Its z) (z.cps.toList.map fun c => .str ⟨#[c]⟩) [] [] where
  goes := fun S H i hi r => (walk_str (z := z)).goes i H (by simpa using hi) trivial
  stops := fun S H r => by
    have := (walk_str (z := z)).stops H trivial
    simpa using this
  yields := fun S H i x H' hi r y => by
    obtain ⟨e, c, h1, h2⟩ := (walk_str (z := z)).yields i H x H' (by simpa using hi) trivial y
    subst e h2
    refine ⟨.str ⟨#[c]⟩, ?_, Chg.refl _, Rep.str _⟩
    rw [List.getElem?_map, Array.getElem?_toList, h1]; rfl
theorem walkD_range {K : PySem.W.Frag} {st : Stx xi} {lo : Int} {n : Nat} : WalkD false K st (Itr lo n) ((List.range n).map fun i => .int (lo + (i : Nat))) [] [] where
  goes := fun S H i hi r => by
    have hi' : i < n := by simpa using hi
    exact hi'
  stops := fun S H r => by show n ≤ _; simp
  yields := fun S H i x H' hi r y => by
    obtain ⟨e1, e2⟩ := y
    subst e1 e2
    have hi' : i < n := by simpa using hi
    exact ⟨.int (lo + i), by simp [hi'], Chg.refl _, Rep.int _⟩
/-- a range that is held, walked -/
theorem pi_rng {e : Expr} {te : L2.TE} (he : PE X e te) : PI X tg e (fun σ H R => te σ H fun v H1 => ∃ a lo hi, v = .ref a ∧ H1 a = some (.rng lo hi) ∧ (-(2 ^ 62) ≤ lo ∧ lo < 2 ^ 62 ∧ -(2 ^ 62) ≤ hi ∧ hi < 2 ^ 62) ∧ R (Itr lo (hi - lo).toNat) H1) := by
  constructor
  intro pins s σ H R I h
  apply thn (he.run pins s σ H _ I h)
  rintro v s1 ⟨x, H1, I1, r1, a, lo, hi, e1, ha, ⟨g1, g2, g3, g4⟩, q⟩
  subst e1
  cases r1
  obtain ⟨t, u, w, hg⟩ := (show ∃ t u v, s1.heap.get? a = some { cls := .type "range", data := .fields #[.int lo t, .int hi u, .int 1 v] } from I1.hok a _ ha)
  apply wpAny_pyIter_range (a := lo) (b := hi) (c := 1) (r := a) (t := t) (u := u) (v := w) hg (small_one g1 g2 g3 g4)
  refine ⟨_, [_], _, _, H1, rfl, I1.kept (t' := s1.toks) fun b o z => Heap.get?_push_of_some _ z, turn_range s1.heap.objs.size lo (hi - lo).toNat, ?_, ?_, q⟩
  · have k1 : (((hi - lo).toNat : Nat) : Int) - ((0 : Nat) : Int) = Builtin.Range.rangeSize lo hi 1 := by
      rw [rangeSize_one]
      split <;> omega
    have k2 : lo + ((0 : Nat) : Int) * 1 = lo := by omega
    show IsRangeIter _ _ (lo + ((0 : Nat) : Int) * 1) ((((hi - lo).toNat : Nat) : Int) - ((0 : Nat) : Int)) 1
    rw [k1, k2]
    exact Heap.get?_push_size _ rfl
  · intro b hb
    cases List.mem_singleton.mp hb
    exact I1.fpOk (Nat.le_refl _) (I1.hok.fresh (Nat.le_refl _))
/-- for x in e, e a list, a tuple or a text -/
theorem si_seq {e : Expr} {F : EV → M D} (h : SE X W e F) : SI false X W tg e (fun ρ => do let x ← F ρ; dIts x) := by
  refine ⟨⟨fun pins s σ H R I ⟨st, S, ρ, m, cv, er, o⟩ => ?_⟩⟩
  have key : ∀ (P : V → Hp → Prop), (∀ v d m1 H1, F ρ m = .ok d m1 → Cov X.K st S H1 m1 → Rep X.K st S H1 v d → OutI false X.K st S H1 (dIts d m1) R (WE W σ) → P v H1) → TE X.xi X.K W F σ H P := fun P hP =>
    TE.bindI (G := fun x _ => dIts x) cv er o fun v d m1 H1 e1 c1 cv1 er1 r1 o1 => hP v d m1 H1 e1 cv1 r1 o1
  cases e1 : F ρ m with
  | bad =>
    replace o : OutI false X.K st S H ((F ρ >>= fun x => dIts x) m) R (WE W σ) := o
    rw [bind_run, e1] at o; exact o.elim
  | err c fs m1 =>
    refine (pi_list (tg := tg) h.pe).run pins s σ H R I (key _ fun v d m2 H1 e2 _ _ _ => ?_)
    rw [e1] at e2; cases e2
  | ok d m1 =>
    cases d with
    | lst ds =>
      refine (pi_list (tg := tg) h.pe).run pins s σ H R I (key _ fun v d m2 H1 e2 cv1 r1 o1 => ?_)
      rw [e1] at e2; cases e2
      have r0 := r1
      cases r1 with
      | lst hn hs rr => exact ⟨_, rfl, ⟨_, SqL.of hs⟩, o1 _ _ _ H1 (Chg.refl _) cv1 (.cons r0 .nil) walkD_list⟩
    | tup ds =>
      refine (pi_tup (tg := tg) h.pe).run pins s σ H R I (key _ fun v d m2 H1 e2 cv1 r1 o1 => ?_)
      rw [e1] at e2; cases e2
      have r0 := r1
      cases r1 with
      | tup hs rr => exact ⟨_, rfl, ⟨_, hs.sq⟩, o1 _ _ _ H1 (Chg.refl _) cv1 (.cons r0 .nil) walkD_tup⟩
    | scr ns =>
      refine (pi_list (tg := tg) h.pe).run pins s σ H R I (key _ fun v d m2 H1 e2 cv1 r1 o1 => ?_)
      rw [e1] at e2; cases e2
      have r0 := r1
      cases r1 with
      | scr hs => exact ⟨_, rfl, ⟨_, hs.sq⟩, o1 _ _ _ H1 (Chg.refl _) cv1 (.cons r0 .nil) walkD_scr⟩
    | str z =>
      refine (pi_str (tg := tg) h.pe).run pins s σ H R I (key _ fun v d m2 H1 e2 cv1 r1 o1 => ?_)
      rw [e1] at e2; cases e2
      cases r1 with
      | str z => exact ⟨_, rfl, o1 _ _ _ H1 (Chg.refl _) cv1 .nil walkD_str⟩
    | rng i j =>
      refine (pi_rng (tg := tg) h.pe).run pins s σ H R I (key _ fun v d m2 H1 e2 cv1 r1 o1 => ?_)
      rw [e1] at e2; cases e2
      cases r1 with
      | rng hs =>
        obtain ⟨hn, o2⟩ := out_need (P := fun r => OutI false X.K st S H1 r R (WE W σ)) (fun z => z) o1
        have hn := of_decide_eq_true hn
        exact ⟨_, i, j, rfl, hs, hn, o2 _ _ _ H1 (Chg.refl _) cv1 .nil walkD_range⟩
    | _ =>
      refine (pi_list (tg := tg) h.pe).run pins s σ H R I (key _ fun v d m2 H1 e2 cv1 r1 o1 => ?_)
      rw [e1] at e2; cases e2
      exact o1.elim
def dRange : List D → M (List D)
  | [.int j] => do need (decide (-(2 ^ 62) ≤ j ∧ j < 2 ^ 62)); pure ((List.range j.toNat).map fun i => .int (i : Nat))
  | [.int i, .int j] => do need (decide (-(2 ^ 62) ≤ i ∧ i < 2 ^ 62 ∧ -(2 ^ 62) ≤ j ∧ j < 2 ^ 62)); pure ((List.range (j - i).toNat).map fun k => .int (i + (k : Nat)))
  | _ => M.bad
theorem TAD.bindI {pr : Bool} {K : PySem.W.Frag} {A : EV → M (List D)} {G : List D → M (List D)} {σ : L2.St} {H : Hp} {Q : It → Hp → Prop} {R : List V → Hp → Prop} {st : Stx xi} {S : Addr → Prop} {ρ : EV} {m : SM}
    (cv : Cov K st S H m) (er : EnvR K st S H σ ρ) (o : OutI pr K st S H ((A ρ >>= fun d => G d) m) Q (WE W σ))
    (k : ∀ vs ds m1 H1, Chg (atSt st) H H1 → Cov K st S H1 m1 → EnvR K st S H1 σ ρ → RepL K st S H1 vs ds → OutI pr K st S H1 (G ds m1) Q (WE W σ) → R vs H1) : TAD xi K W A σ H R := by
  refine ⟨st, S, ρ, m, cv, er, ?_⟩
  rw [bind_run] at o
  cases e : A ρ m with
  | ok d m1 =>
    rw [e] at o
    exact fun v H1 c cv1 r => k v d m1 H1 c cv1 (er.mono c cv.sub) r (OutI.chg o c)
  | err c fs m1 => rw [e] at o; exact o
  | bad => rw [e] at o; exact o.elim
theorem PI.imp {e : Expr} {t t' : L2.TI} (h : PI X tg e t) (i : ∀ σ H Q, t' σ H Q → t σ H Q) : PI X tg e t' := ⟨fun pins s σ H Q I q => h.run pins s σ H Q I (i σ H Q q)⟩
theorem si_range1 {a : Expr} {p : Pos} {A : EV → M (List D)} (hg : Gl X "range") (hm : X.mg "range" = none) (ha : SA X W [a] A) (hs : starEach [a] X.env = [(false, eval a X.env)] := by rfl) : SI false X W tg (.Call (.Name "range" p) [a] [] pos) (fun ρ => do let ds ← A ρ; need (decide (ds.length = 1)); dRange ds) := by
  refine ⟨PI.imp (pi_range1 hg hm ha.pa hs) fun σ H Q ⟨st, S, ρ, m, cv, er, o⟩ => ?_⟩
  refine TAD.bindI (G := fun ds => do need (decide (ds.length = 1)); dRange ds) cv er o fun vs ds m1 H1 c1 cv1 er1 r1 o1 => ?_
  obtain ⟨hl, o2⟩ := out_need (P := fun r => OutI false X.K st S H1 r Q (WE W σ)) (fun z => z) o1
  clear o1
  have hl := of_decide_eq_true hl
  match ds, hl with
  | [d], _ =>
    obtain ⟨v, rfl, rv⟩ := repL1 r1
    cases d with
    | int j =>
      obtain ⟨h, o3⟩ := out_need (P := fun r => OutI false X.K st S H1 r Q (WE W σ)) (fun z => z) o2
      cases rv
      have h' := of_decide_eq_true h
      refine ⟨j, rfl, h'.1, h'.2, o3 _ _ _ H1 (Chg.refl _) cv1 .nil ?_⟩
      have w := walkD_range (K := X.K) (st := st) (lo := 0) (n := j.toNat)
      simpa using w
    | _ => exact o2.elim
end
abbrev W0 : WX := fun _ _ _ _ => False
def noErr {α : Type} (x : M α) : M α := fun m => match x m with
  | .ok a m' => .ok a m'
  | _ => .bad
/-- a block's own name is bound; two are -/
def eName (i : Nat) : D → EV → Option EV := fun d ρ => some (ρ.set i (some d))
def ePair (i j : Nat) : D → EV → Option EV
  | .tup [a, b], ρ => some ((ρ.set i (some a)).set j (some b))
  | _, _ => none
def bindE (bnd : D → EV → Option EV) (d : D) (ρ : EV) : M EV := match bnd d ρ with
  | some r => pure r
  | none => M.bad
/-- [E for i in ds if C] -/
def compL (bnd : D → EV → Option EV) (C : EV → M Bool) (E : EV → M D) (ρ : EV) : List D → M (List D)
  | [] => pure []
  | d :: ds => do
    let ρ1 ← bindE bnd d ρ
    let b ← noErr (C ρ1)
    if b = true then (do
      let y ← noErr (E ρ1)
      let r ← compL bnd C E ρ ds
      pure (y :: r)) else compL bnd C E ρ ds
theorem noErr_cases {α : Type} (x : M α) (m : SM) : (∃ a m', x m = .ok a m' ∧ noErr x m = .ok a m') ∨ noErr x m = .bad := by
  unfold noErr
  cases e : x m with
  | ok b m2 => exact .inl ⟨b, m2, rfl, rfl⟩
  | err c fs m2 => exact .inr rfl
  | bad => exact .inr rfl
def compV (bnd : D → EV → Option EV) (I : EV → M (List D)) (C : EV → M Bool) (E : EV → M D) (ρ : EV) : M (List D) := do
  let ds ← I ρ
  lim ds.length
  compL bnd C E ρ ds
/-- tests of a clause -/
structure STs (X : Cx) (W : WX) (ifs : List Expr) (C : EV → M Bool) : Prop where
  pt : PTs X ifs (TT X.xi X.K W C)
theorem sts_nil {X : Cx} {W : WX} : STs X W [] (fun _ => pure true) := ⟨⟨fun pins s σ H Q I ⟨st, S, ρ, m, cv, er, o⟩ => pts_nil.run pins s σ H Q I (o H (Chg.refl H) cv)⟩⟩
theorem sts_one {X : Cx} {W : WX} {c : Expr} {C : EV → M Bool} (h : ST X W c C) : STs X W [c] C := ⟨pts_one h.pt⟩
theorem EnvR.set {K : PySem.W.Frag} {st : Stx xi} {S : Addr → Prop} {H : Hp} {σ σ' : L2.St} {ρ : EV} {i : Nat} {v : V} {d : D} (e : EnvR K st S H σ ρ) (r : Rep K st S H v d) (h1 : ∀ j, j ≠ i → σ'[j]? = σ[j]?) (h2 : i < σ.length → σ'[i]? = some (some v)) : i < σ.length → EnvR K st S H σ' (ρ.set i (some d)) := fun hi => by
  refine ⟨fun j u h => ?_⟩
  by_cases hj : j = i
  · subst hj
    have hl : j < ρ.length := by
      have := (List.getElem?_eq_some_iff.mp h).1
      simpa using this
    rw [List.getElem?_set_self hl] at h
    cases h
    exact ⟨v, h2 hi, r⟩
  · rw [List.getElem?_set_ne (Ne.symm hj)] at h
    obtain ⟨u', e1, e2⟩ := e.at_ j u h
    exact ⟨u', (h1 j hj).trans e1, e2⟩
/-- what binding does in the machine, in a block -/
def BndE (pr : Bool) (K : PySem.W.Frag) (g : TG) (vs : List Nat) (bnd : D → EV → Option EV) : Prop := ∀ {xi : XI} (st : Stx xi) (S : Addr → Prop) (H : Hp) (σ : L2.St) (ρ ρ1 : EV) (v : V) (d : D) (Q : L2.St → Hp → Prop), (∀ i ∈ vs, i < σ.length) → EnvR K st S H σ ρ → RepW pr K st S H v d → bnd d ρ = some ρ1 →
  (∀ σ2, wipe σ2 vs = wipe σ vs → EnvR K st S H σ2 ρ1 → Q σ2 H) → g v (wipe σ vs) H Q
theorem bndE_name {K : PySem.W.Frag} {i : Nat} : BndE false K (gName i) [i] (eName i) := fun st S H σ ρ ρ1 v d Q hl e r h q => by
  cases h
  refine q _ (by simp [wipe]) (EnvR.set (σ := σ) e r (fun k hk => ?_) (fun hk => ?_) (hl i (by simp)))
  · simp [wipe, List.getElem?_set_ne (Ne.symm hk)]
  · simp [wipe, hk]
theorem bndE_pair {K : PySem.W.Frag} {i j : Nat} (hij : i ≠ j) : BndE true K (gTup K 2 (gCons (gName i) (gCons (gName j) gNil))) [i, j] (ePair i j) := fun st S H σ ρ ρ1 v d Q hl e r h q => by
  obtain ⟨T, x, y, d1, d2, e1, e2, hq, r1, r2⟩ := r
  subst e1 e2
  cases h
  refine ⟨T, [x, y], rfl, hq, rfl, x, [y], rfl, y, [], rfl, rfl, q _ ?_ ?_⟩
  · refine List.ext_getElem? fun k => ?_
    have l1 := hl i (by simp)
    have l2 := hl j (by simp)
    simp only [wipe]
    by_cases h1 : j = k
    · by_cases h2 : i = k
      · exact absurd (h2.trans h1.symm) hij
      · simp [List.getElem?_set, h1, h2]
    · by_cases h2 : i = k
      · simp [List.getElem?_set, h1, h2]
      · simp [List.getElem?_set, h1, h2]
  · have e1 : EnvR K st S H (σ.set i (some x)) (ρ.set i (some d1)) := EnvR.set (σ := σ) e r1 (fun k hk => by simp [List.getElem?_set_ne (Ne.symm hk)]) (fun hk => by simp [hk]) (hl i (by simp))
    have lj : j < (σ.set i (some x)).length := by simpa using hl j (by simp)
    have e2 : EnvR K st S H ((σ.set i (some x)).set j (some y)) ((ρ.set i (some d1)).set j (some d2)) := EnvR.set (σ := σ.set i (some x)) e1 r2 (fun k hk => by simp [List.getElem?_set_ne (Ne.symm hk)]) (fun _ => List.getElem?_set_self lj) lj
    refine ⟨fun k u hu => ?_⟩
    obtain ⟨w, h1, h2⟩ := e2.at_ k u hu
    refine ⟨w, ?_, h2⟩
    rw [← h1]
    simp only [wipe]
    have l1 := hl i (by simp)
    have l2 := hl j (by simp)
    by_cases h3 : j = k
    · simp [List.getElem?_set, h3, l2]
    · by_cases h4 : i = k
      · simp [List.getElem?_set, h3, h4, l1]
      · simp [List.getElem?_set, h3, h4]
/-- a comprehension's reading -/
theorem lc_imp {pr : Bool} {K : PySem.W.Frag} {W : WX} {I : EV → M (List D)} {C : EV → M Bool} {E : EV → M D} {bnd : D → EV → Option EV} {g : TG} {vs : List Nat} {σ : L2.St} {H : Hp} {Q : VK} (hi : ∀ i ∈ vs, i < σ.length) (hb : BndE pr K g vs bnd) (h : TF xi K W (compV bnd I C E) σ H Q) : tLc (TID pr xi K W I) g (TT xi K W0 C) (TE xi K W0 E) vs σ H Q := by
  obtain ⟨st, S, ρ, m, cv, er, o⟩ := h
  refine ⟨st, S, ρ, m, cv, er, ?_⟩
  unfold compV at o
  rw [bind_run] at o
  cases e : I ρ m with
  | bad => rw [e] at o; exact o.elim
  | err c fs m1 => rw [e] at o; exact o
  | ok ds m1 =>
    rw [e] at o
    intro J vs0 ds0 H1 c1 cv1 r0 wd P hP
    obtain ⟨hz, o1⟩ := out_lim (P := fun r => OutF K st S H r Q (WE W σ)) (fun z => z) o
    clear o e
    have er1 : EnvR K st S H1 σ ρ := er.mono c1 cv.sub
    have o2 : OutF K st S H1 (compL bnd C E ρ ds m1) Q (WE W σ) := OutF.chg o1 c1
    clear o1
    have hPS : ¬ S P := cv1.out hP
    -- what is avoided within: the new list too
    refine ⟨fun j n Hc => n = ds.length - j ∧ j ≤ ds.length ∧ ∃ acc accD mm, Chg (fun a => atSt st a ∨ a = P) (upd H1 P (.lst [])) Hc ∧ Cov K st S Hc mm ∧ Hc P = some (.lst acc) ∧ RepL K st (fun a => S a ∨ a = P) Hc acc accD ∧
      EnvR K st (fun a => S a ∨ a = P) Hc σ ρ ∧ RepL K st (fun a => S a ∨ a = P) Hc vs0 ds0 ∧ acc.length ≤ j ∧ OutF K st S H1 ((compL bnd C E ρ (ds.drop j) >>= fun r => pure (accD ++ r)) mm) Q (WE W σ), ?_, ?_⟩
    · have hw : ∀ a, (S a ∨ a = P) → S a ∨ H1 a = none := fun a z => z.imp id fun q => by rw [q]; exact hP
      refine ⟨ds.length, by simp, Nat.zero_le _, [], [], m1, Chg.refl _, cv1.new hP, upd_same, .nil, (er1.wide hw).mono (Chg.new (B := noB) hP) fun _ z => z.elim, (r0.wide hw).new hP, Nat.le_refl _, ?_⟩
      rw [List.drop_zero]
      show OutF K st S H1 ((compL bnd C E ρ ds >>= fun r => pure r) m1) Q (WE W σ)
      rw [bind_pure]
      exact o2
    · rintro j n Hc ⟨rfl, hj, acc, accD, mm, cc, cvc, hac, rac, erc, r0c, hlen, oc⟩
      have nSt : ∀ {P' : Prop}, atSt st P → P' := fun z => (hPS (cv1.sub P z)).elim
      by_cases hlt : j < ds.length
      · refine .inr ⟨wd.goes _ Hc j hlt r0c, _, fun H' p' => ⟨ds.length - (j + 1), by omega, rfl, hlt, p'⟩, fun x H' y => ?_⟩
        obtain ⟨d, hd, cy, rx⟩ := wd.yields _ Hc j x H' hlt r0c y
        have hdrop : ds.drop j = d :: ds.drop (j + 1) := by
          obtain ⟨h1, h2⟩ := List.getElem?_eq_some_iff.mp hd
          rw [← h2, List.drop_eq_getElem_cons h1]
        rw [hdrop] at oc
        have dom' : ∀ a, (S a ∨ a = P) → Hc a ≠ none := fun a z => z.elim (cvc.dom a) fun q => by rw [q, hac]; simp
        have cvw : Cov K st (fun a => S a ∨ a = P) H' mm := (cvc.wide (fun a z => .inl z) dom').keep cy fun _ z => z.elim
        have sub' : ∀ a, atSt st a → S a ∨ a = P := fun a z => .inl (cvc.sub a z)
        rw [compL, bind_assoc, bind_run] at oc
        cases hbn : bnd d ρ with
        | none => rw [show bindE bnd d ρ mm = R.bad from by unfold bindE; rw [hbn]; rfl] at oc; exact oc.elim
        | some ρ1 =>
        rw [show bindE bnd d ρ mm = R.ok ρ1 mm from by unfold bindE; rw [hbn]; rfl] at oc
        replace oc : OutF K st S H1 (((noErr (C ρ1) >>= fun b => if b = true then (noErr (E ρ1) >>= fun y => compL bnd C E ρ (ds.drop (j + 1)) >>= fun r => pure (y :: r)) else compL bnd C E ρ (ds.drop (j + 1))) >>= fun r => pure (accD ++ r)) mm) Q (WE W σ) := oc
        refine hb st _ H' σ ρ ρ1 x d _ hi (erc.mono cy fun _ z => z.elim) rx hbn fun σ2 hw2 ery => ?_
        refine ⟨hw2, ?_⟩
        refine ⟨st, _, ρ1, mm, cvw, ery, ?_⟩
        rw [bind_assoc, bind_run] at oc
        rcases noErr_cases (C ρ1) mm with ⟨b, m2, e1, e2⟩ | e2
        · rw [e2] at oc
          rw [e1]
          intro H3 c3 cv3
          have c13 : Chg (fun a => atSt st a ∨ a = P) Hc H3 := (cy.mono fun _ z => z.elim).trans (c3.mono fun _ z => .inl z)
          have cvS3 : Cov K st S H3 m2 := cvc.swap c13 cv3
          have hac3 : H3 P = some (.lst acc) := c3.keep (cy.keep hac (.inr fun z => z)) (.inr fun z => nSt z)
          have B3 : ∀ a, (atSt st a ∨ a = P) → S a ∨ a = P := fun a z => z.imp (cvc.sub a) id
          cases b with
          | false =>
            exact ⟨acc, accD, m2, cc.trans c13, cvS3, hac3, rac.mono c13 B3 fun _ z => z, erc.mono c13 B3, r0c.mono c13 B3 fun _ z => z, Nat.le_succ_of_le hlen, oc⟩
          | true =>
            replace oc : OutF K st S H1 (((noErr (E ρ1) >>= fun y => compL bnd C E ρ (ds.drop (j + 1)) >>= fun r => pure (y :: r)) >>= fun r => pure (accD ++ r)) m2) Q (WE W σ) := oc
            simp only [bind_assoc, pure_bind] at oc
            refine ⟨st, _, ρ1, m2, cv3, ery.mono c3 sub', ?_⟩
            rw [bind_run] at oc
            rcases noErr_cases (E ρ1) m2 with ⟨yD, m3, e3, e4⟩ | e4
            · rw [e4] at oc
              rw [e3]
              intro yv H4 c4 cv4 ry
              have c14 : Chg (fun a => atSt st a ∨ a = P) Hc H4 := c13.trans (c4.mono fun _ z => .inl z)
              have hac4 : H4 P = some (.lst acc) := c4.keep hac3 (.inr fun z => nSt z)
              have cw : Chg (fun a => a = P) H4 (upd H4 P (.lst (acc ++ [yv]))) := Chg.write hac4 rfl rfl
              have c15 : Chg (fun a => atSt st a ∨ a = P) Hc (upd H4 P (.lst (acc ++ [yv]))) := c14.trans (cw.mono fun _ z => .inr z)
              refine ⟨acc, hac4, by omega, acc ++ [yv], accD ++ [yD], m3, cc.trans c15, ?_, upd_same, (rac.mono c15 B3 fun _ z => z).append (.cons (ry.mono cw (fun a z => .inr z) fun _ z => z) .nil), erc.mono c15 B3, r0c.mono c15 B3 fun _ z => z, ?_, ?_⟩
              · exact (cvc.swap c14 cv4).keep cw fun a z => by rw [z]; exact hPS
              · rw [List.length_append]; simp; omega
              · simp only [List.append_assoc, List.singleton_append]
                exact oc
            · rw [e4] at oc; exact oc.elim
        · rw [e2] at oc; exact oc.elim
      · have ej : j = ds.length := by omega
        subst ej
        refine .inl ⟨wd.stops _ Hc r0c, ?_⟩
        rw [List.drop_length, compL, pure_bind, List.append_nil] at oc
        have cf : Chg (atSt st) H1 Hc := fun a u e => by
          have ne : a ≠ P := ne_of_none e hP
          rcases cc a u (by rw [upd_ne ne]; exact e) with q | ⟨q, r⟩
          · exact .inl q
          · exact .inr ⟨q.elim id fun z => (ne z).elim, r⟩
        exact oc P acc Hc hP cf cvc hac rac
section
variable {X : Cx} {W : WX} {pos : Pos}
/-- [E for .. in iter if C] as a value -/
theorem sf_lcG {pr : Bool} {bnd : D → EV → Option EV} {g : TG} {own : List (Str × Nat)} {elt tg iter : Expr} {ifs : List Expr} {scope : Scope} {I : EV → M (List D)} {C : EV → M Bool} {E : EV → M D} (hc : X.calm = true) (hN : X.N.Nodup) (hi : ∀ i ∈ own.map (·.2), i < X.N.length) (hI : SI pr X W tg iter I) (ok : BlkOk X.N X.env.scope scope own)
    (hb : BndE pr X.K g (own.map (·.2)) bnd)
    (hg : ∀ (s : Shared) (H : Hp) (C : Addr) (cl : List (Str × Addr)) (fp : List Addr), PG (X.blk s H scope (compEnvC scope cl C X.env) fp) tg g)
    (ht : ∀ (s : Shared) (H : Hp) (D : Addr) (cl : List (Str × Addr)) (fp : List Addr), STs (X.blk s H scope (compEnvC scope cl D X.env) fp) W0 ifs C)
    (he : ∀ (s : Shared) (H : Hp) (D : Addr) (cl : List (Str × Addr)) (fp : List Addr), SE (X.blk s H scope (compEnvC scope cl D X.env) fp) W0 elt E) (hs : ∀ x, foldedSetIterable iter X.env x = pure x := by intro _; rfl) :
    SF X W (.ListComp elt [⟨tg, iter, ifs, 0⟩] scope pos) (compV bnd I C E) := by
  refine ⟨⟨fun pins s σ H Q Iv q => ?_⟩⟩
  have e0 := Iv.ok.hd hc
  rw [xi_none e0] at q
  refine (pe_lc (own := own) (tt := TT none X.K W0 C) (te := TE none X.K W0 E) (g := g) hc hN hI.pi ok hg (fun s H D cl fp => by have z := (ht s H D cl fp).pt; rw [xi_none (show (X.blk s H scope (compEnvC scope cl D X.env) fp).A.handled = none from e0)] at z; exact z) (fun s H D cl fp => by have z := (he s H D cl fp).pe; rw [xi_none (show (X.blk s H scope (compEnvC scope cl D X.env) fp).A.handled = none from e0)] at z; exact z) hs).run pins s σ H Q Iv ?_
  rw [xi_none e0]
  exact lc_imp (by rw [Iv.len]; exact hi) hb q
theorem sf_lc {i : Nat} {x : Str} {px : Pos} {elt iter : Expr} {ifs : List Expr} {scope : Scope} {I : EV → M (List D)} {C : EV → M Bool} {E : EV → M D} (hc : X.calm = true) (hN : X.N.Nodup) (hi : i < X.N.length) (hI : SI false X W (.Name x px) iter I) (ok : BlkOk X.N X.env.scope scope [(x, i)])
    (hg : ∀ (s : Shared) (H : Hp) (C : Addr) (cl : List (Str × Addr)) (fp : List Addr), PG (X.blk s H scope (compEnvC scope cl C X.env) fp) (.Name x px) (gName i))
    (ht : ∀ (s : Shared) (H : Hp) (D : Addr) (cl : List (Str × Addr)) (fp : List Addr), STs (X.blk s H scope (compEnvC scope cl D X.env) fp) W0 ifs C)
    (he : ∀ (s : Shared) (H : Hp) (D : Addr) (cl : List (Str × Addr)) (fp : List Addr), SE (X.blk s H scope (compEnvC scope cl D X.env) fp) W0 elt E) (hs : ∀ x, foldedSetIterable iter X.env x = pure x := by intro _; rfl) :
    SF X W (.ListComp elt [⟨.Name x px, iter, ifs, 0⟩] scope pos) (compV (eName i) I C E) :=
  sf_lcG (own := [(x, i)]) hc hN (by simpa using hi) hI ok bndE_name hg ht he hs
end
end Den
set_option Elab.async false
set_option linter.all false
set_option maxRecDepth 100000
set_option maxHeartbeats 4000000
namespace Den
open PySem PySem.Spec PyProof.Rows L2
inductive Sl where
  | no | va (d : D) | ow (xs : List D) | ob (c : Str) (fs : List (Str × D))
abbrev SV := List Sl
inductive Fl where
  | nx (ρ : SV) | rt (d : D) | rf (ds : List D) | bk (ρ : SV) | ct (ρ : SV) | ex (c : Str) (fs : List (Str × D)) (ρ : SV)
def Sl.isOwn : Sl → Bool
  | .ow _ => true
  | .ob _ _ => true
  | _ => false
def OwnAt (ρ : SV) (σ : L2.St) (i : Nat) (a : Addr) : Prop := (∃ s, ρ[i]? = some s ∧ s.isOwn = true) ∧ σ[i]? = some (some (.ref a))
def Own (ρ : SV) (σ : L2.St) (a : Addr) : Prop := ∃ i, OwnAt ρ σ i a
abbrev Av (S : Addr → Prop) (ρ : SV) (σ : L2.St) : Addr → Prop := fun a => S a ∨ Own ρ σ a
structure EnvS (K : PySem.W.Frag) (st : Stx xi) (S : Addr → Prop) (H0 H : Hp) (σ : L2.St) (ρ : SV) : Prop where
  va : ∀ (i : Nat) (d : D), ρ[i]? = some (.va d) → ∃ v, σ[i]? = some (some v) ∧ Rep K st (Av S ρ σ) H v d
  ow : ∀ (i : Nat) (xs : List D), ρ[i]? = some (.ow xs) → ∃ a vs, σ[i]? = some (some (.ref a)) ∧ H a = some (.lst vs) ∧ H0 a = none ∧ RepL K st (Av S ρ σ) H vs xs
  ob : ∀ (i : Nat) (c : Str) (fs : List (Str × D)), ρ[i]? = some (.ob c fs) → ∃ a dx fv, σ[i]? = some (some (.ref a)) ∧ H a = some (.ins (He.ga K c) dx fv) ∧ H0 a = none ∧ RepF K st (Av S ρ σ) H fv fs
  dis : ∀ (i j : Nat) (a : Addr), OwnAt ρ σ i a → OwnAt ρ σ j a → i = j
  len : σ.length = ρ.length
section
variable {K : PySem.W.Frag} {st : Stx xi} {S : Addr → Prop} {H0 H H' : Hp} {σ : L2.St} {ρ : SV}
/-- an own thing stands in the heap, was not there at the entry -/
theorem EnvS.own (e : EnvS K st S H0 H σ ρ) {i : Nat} {a : Addr} (o : OwnAt ρ σ i a) : (∃ u, H a = some u ∧ isMut u = true) ∧ H0 a = none := by
  obtain ⟨⟨s, h1, h2⟩, h3⟩ := o
  cases s with
  | no => cases h2
  | va d => cases h2
  | ow xs =>
    obtain ⟨b, vs, g1, g2, g3, _⟩ := e.ow i xs h1
    rw [h3] at g1; cases g1
    exact ⟨⟨_, g2, rfl⟩, g3⟩
  | ob c fs =>
    obtain ⟨b, dx, vs, g1, g2, g3, _⟩ := e.ob i c fs h1
    rw [h3] at g1; cases g1
    exact ⟨⟨_, g2, rfl⟩, g3⟩
/-- what one keeps of the entry -/
structure Kept (K : PySem.W.Frag) (st : Stx xi) (S : Addr → Prop) (H0 H : Hp) (m : SM) : Prop where
  cov : Cov K st S H m
  dom0 : ∀ a, S a → H0 a ≠ none
  chg : Chg (atSt st) H0 H
theorem Kept.not (k : Kept K st S H0 H m) {a : Addr} (h : H0 a = none) : ¬ S a := fun z => k.dom0 a z h
/-- a view: own things are seen where the mask says so -/
def Sl.see : Sl → Bool → Option D
  | .va d, _ => some d
  | .ow xs, true => some (.lst xs)
  | .ob c fs, true => some (.obj c fs)
  | _, _ => none
def vw : List Bool → SV → EV
  | _, [] => []
  | [], s :: ρ => s.see false :: vw [] ρ
  | b :: bs, s :: ρ => s.see b :: vw bs ρ
theorem vw_at : ∀ (mk : List Bool) (ρ : SV) (i : Nat), (vw mk ρ)[i]? = (ρ[i]?).map fun s => s.see (mk.getD i false)
  | _, [], i => by simp [vw]
  | [], s :: ρ, 0 => by simp [vw]
  | [], s :: ρ, i + 1 => by simpa [vw] using vw_at [] ρ i
  | b :: bs, s :: ρ, 0 => by simp [vw]
  | b :: bs, s :: ρ, i + 1 => by simpa [vw] using vw_at bs ρ i
/-- what a view avoids -/
def AvM (S : Addr → Prop) (mk : List Bool) (ρ : SV) (σ : L2.St) : Addr → Prop := fun a => S a ∨ ∃ i, OwnAt ρ σ i a ∧ mk.getD i false = false
theorem AvM.sub {mk : List Bool} : ∀ a, AvM S mk ρ σ a → Av S ρ σ a := fun a z => z.imp id fun ⟨i, o, _⟩ => ⟨i, o⟩
theorem AvM.nil : ∀ a, Av S ρ σ a → AvM S [] ρ σ a := fun a z => z.imp id fun ⟨i, o⟩ => ⟨i, o, by simp⟩
theorem EnvS.view (e : EnvS K st S H0 H σ ρ) (hS : ∀ a, S a → H0 a ≠ none) (mk : List Bool) : EnvR K st (AvM S mk ρ σ) H σ (vw mk ρ) := by
  refine ⟨fun i d h => ?_⟩
  rw [vw_at] at h
  obtain ⟨s, h1, h2⟩ := Option.map_eq_some_iff.mp h
  have no : ∀ a, OwnAt ρ σ i a → mk.getD i false = true → H0 a = none → ¬ AvM S mk ρ σ a := fun a o hm h0 z => by
    rcases z with z | ⟨j, oj, hj⟩
    · exact hS a z h0
    · rw [e.dis j i a oj o, hm] at hj; cases hj
  cases s with
  | no => cases h2
  | va d' =>
    cases h2
    obtain ⟨v, g1, g2⟩ := e.va i d h1
    exact ⟨v, g1, g2.mono (B := noB) (Chg.refl H) (fun _ z => z.elim) AvM.sub⟩
  | ow xs =>
    cases hm : mk.getD i false with
    | false => rw [hm] at h2; cases h2
    | true =>
      rw [hm] at h2; cases h2
      obtain ⟨a, vs, g1, g2, g3, g4⟩ := e.ow i xs h1
      exact ⟨_, g1, .lst (no a ⟨⟨_, h1, rfl⟩, g1⟩ hm g3) g2 (g4.mono (B := noB) (Chg.refl H) (fun _ z => z.elim) AvM.sub)⟩
  | ob c fs =>
    cases hm : mk.getD i false with
    | false => rw [hm] at h2; cases h2
    | true =>
      rw [hm] at h2; cases h2
      obtain ⟨a, dx, fv, g1, g2, g3, g4⟩ := e.ob i c fs h1
      exact ⟨_, g1, .obj (no a ⟨⟨_, h1, rfl⟩, g1⟩ hm g3) g2 (g4.mono (B := noB) (Chg.refl H) (fun _ z => z.elim) AvM.sub)⟩
theorem Kept.view {m : SM} (k : Kept K st S H0 H m) (e : EnvS K st S H0 H σ ρ) (mk : List Bool) : Cov K st (AvM S mk ρ σ) H m :=
  k.cov.wide (fun a z => .inl z) fun a z => z.elim (k.cov.dom a) fun ⟨i, o, _⟩ => by
    obtain ⟨⟨u, h, _⟩, _⟩ := e.own o
    rw [h]; simp
/-- behind an expression, the slots as they were -/
theorem EnvS.after {m : SM} (k : Kept K st S H0 H m) (e : EnvS K st S H0 H σ ρ) (c : Chg (atSt st) H H') : EnvS K st S H0 H' σ ρ := by
  have sub : ∀ a, atSt st a → Av S ρ σ a := fun a z => .inl (k.cov.sub a z)
  have nst : ∀ a, H0 a = none → ¬ atSt st a := fun a h z => k.not h (k.cov.sub a z)
  refine ⟨fun i d h => ?_, fun i xs h => ?_, fun i cn fs h => ?_, e.dis, e.len⟩
  · obtain ⟨v, g1, g2⟩ := e.va i d h
    exact ⟨v, g1, g2.mono c sub fun _ z => z⟩
  · obtain ⟨a, vs, g1, g2, g3, g4⟩ := e.ow i xs h
    exact ⟨a, vs, g1, c.keep g2 (.inr (nst a g3)), g3, g4.mono c sub fun _ z => z⟩
  · obtain ⟨a, dx, fv, g1, g2, g3, g4⟩ := e.ob i cn fs h
    exact ⟨a, dx, fv, g1, c.keep g2 (.inr (nst a g3)), g3, g4.mono c sub fun _ z => z⟩
theorem Kept.after {m m' : SM} {S' : Addr → Prop} (k : Kept K st S H0 H m) (c : Chg (atSt st) H H') (cv : Cov K st S' H' m') : Kept K st S H0 H' m' := ⟨k.cov.swap c cv, k.dom0, k.chg.trans c⟩
/-- what was represented stays so; an own instance stays where it is -/
structure Pers (K : PySem.W.Frag) (st : Stx xi) (S : Addr → Prop) (H : Hp) (σ : L2.St) (ρ : SV) (H' : Hp) (σ' : L2.St) (ρ' : SV) : Prop where
  rep : ∀ (v : V) (d : D), Rep K st (Av S ρ σ) H v d → Rep K st (Av S ρ' σ') H' v d
  obs : ∀ (i : Nat) (c : Str) (fs : List (Str × D)), ρ'[i]? = some (.ob c fs) → (∃ gs, ρ[i]? = some (.ob c gs)) ∧ σ'[i]? = σ[i]?
theorem Pers.refl : Pers K st S H σ ρ H σ ρ := ⟨fun _ _ r => r, fun _ _ fs h => ⟨⟨fs, h⟩, rfl⟩⟩
theorem Pers.trans {H1 H2 : Hp} {σ1 σ2 : L2.St} {ρ1 ρ2 : SV} (a : Pers K st S H σ ρ H1 σ1 ρ1) (b : Pers K st S H1 σ1 ρ1 H2 σ2 ρ2) : Pers K st S H σ ρ H2 σ2 ρ2 := ⟨fun v d r => b.rep v d (a.rep v d r), fun i c fs h => by
  obtain ⟨⟨gs, h1⟩, h2⟩ := b.obs i c fs h
  obtain ⟨h3, h4⟩ := a.obs i c gs h1
  exact ⟨h3, h2.trans h4⟩⟩
theorem Pers.list {H1 : Hp} {σ1 : L2.St} {ρ1 : SV} (a : Pers K st S H σ ρ H1 σ1 ρ1) : ∀ {vs : List V} {ds : List D}, RepL K st (Av S ρ σ) H vs ds → RepL K st (Av S ρ1 σ1) H1 vs ds
  | _, _, .nil => .nil
  | _, _, .cons r t => .cons (a.rep _ _ r) (Pers.list a t)
theorem Pers.after {m : SM} (k : Kept K st S H0 H m) (c : Chg (atSt st) H H') : Pers K st S H σ ρ H' σ ρ := ⟨fun v d r => r.mono c (fun a z => .inl (k.cov.sub a z)) fun _ z => z, fun _ _ fs h => ⟨⟨fs, h⟩, rfl⟩⟩
/-- a slot that does not hold an instance is stored -/
theorem obs_set {i : Nat} {s : Sl} {v : Option V} (hs : ∀ c fs, s ≠ .ob c fs) (j : Nat) (c : Str) (fs : List (Str × D)) (h : (ρ.set i s)[j]? = some (.ob c fs)) : (∃ gs, ρ[j]? = some (.ob c gs)) ∧ (σ.set i v)[j]? = σ[j]? := by
  by_cases hj : j = i
  · subst hj
    have hl := (List.getElem?_eq_some_iff.mp h).1
    rw [List.length_set] at hl
    rw [List.getElem?_set_self hl] at h
    exact absurd (Option.some.inj h) (hs c fs)
  · rw [List.getElem?_set_ne (Ne.symm hj)] at h ⊢
    exact ⟨⟨fs, h⟩, rfl⟩
theorem obs_set1 {i : Nat} {s : Sl} (hs : ∀ c fs, s ≠ .ob c fs) (j : Nat) (c : Str) (fs : List (Str × D)) (h : (ρ.set i s)[j]? = some (.ob c fs)) : (∃ gs, ρ[j]? = some (.ob c gs)) ∧ σ[j]? = σ[j]? := ⟨(obs_set (σ := σ) (v := none) hs j c fs h).1, rfl⟩
/-- own things of another slot -/
theorem ownAt_set {i j : Nat} {a : Addr} {s : Sl} {v : Option V} (h : i ≠ j) : OwnAt (ρ.set i s) (σ.set i v) j a ↔ OwnAt ρ σ j a := by
  unfold OwnAt
  rw [List.getElem?_set_ne h, List.getElem?_set_ne h]
theorem own_va {i : Nat} {a : Addr} {d : D} {v : Option V} : Own (ρ.set i (.va d)) (σ.set i v) a → Own ρ σ a ∧ ∀ j, OwnAt (ρ.set i (.va d)) (σ.set i v) j a → j ≠ i := by
  rintro ⟨j, o⟩
  have ne : ∀ j, OwnAt (ρ.set i (.va d)) (σ.set i v) j a → j ≠ i := fun j ⟨⟨s, h1, h2⟩, _⟩ e => by
    subst e
    have hl := (List.getElem?_eq_some_iff.mp h1).1
    rw [List.length_set] at hl
    rw [List.getElem?_set_self hl] at h1
    cases h1; cases h2
  exact ⟨⟨j, (ownAt_set (Ne.symm (ne j o))).mp o⟩, ne⟩
/-- a thing is stored -/
theorem EnvS.setVa {i : Nat} {v : V} {d : D} (e : EnvS K st S H0 H σ ρ) (r : Rep K st (Av S ρ σ) H v d) : EnvS K st S H0 H (σ.set i (some v)) (ρ.set i (.va d)) := by
  by_cases hi : i < σ.length
  case neg =>
    have h1 : σ.length ≤ i := by omega
    have h2 : ρ.length ≤ i := by rw [← e.len]; exact h1
    rw [List.set_eq_of_length_le h1, List.set_eq_of_length_le h2]
    exact e
  have sub : ∀ a, Av S (ρ.set i (.va d)) (σ.set i (some v)) a → Av S ρ σ a := fun a z => z.imp id fun q => (own_va q).1
  have low : ∀ {j : Nat} {s : Sl}, j ≠ i → (ρ.set i (.va d))[j]? = some s → ρ[j]? = some s := fun {j s} h q => by rw [List.getElem?_set_ne (Ne.symm h)] at q; exact q
  have at_i : ∀ {s : Sl}, (ρ.set i (.va d))[i]? = some s → s = .va d := fun {s} q => by
    have hl := (List.getElem?_eq_some_iff.mp q).1
    rw [List.length_set] at hl
    rw [List.getElem?_set_self hl] at q
    exact (Option.some.inj q).symm
  refine ⟨fun j u h => ?_, fun j xs h => ?_, fun j cn fs h => ?_, fun j k a oj ok => ?_, by simp [e.len]⟩
  · by_cases hj : j = i
    · subst hj
      cases at_i h
      exact ⟨v, List.getElem?_set_self hi, r.mono (B := noB) (Chg.refl H) (fun _ z => z.elim) sub⟩
    · obtain ⟨u', g1, g2⟩ := e.va j u (low hj h)
      exact ⟨u', by rw [List.getElem?_set_ne (Ne.symm hj)]; exact g1, g2.mono (B := noB) (Chg.refl H) (fun _ z => z.elim) sub⟩
  · by_cases hj : j = i
    · subst hj; cases at_i h
    · obtain ⟨a, vs, g1, g2, g3, g4⟩ := e.ow j xs (low hj h)
      exact ⟨a, vs, by rw [List.getElem?_set_ne (Ne.symm hj)]; exact g1, g2, g3, g4.mono (B := noB) (Chg.refl H) (fun _ z => z.elim) sub⟩
  · by_cases hj : j = i
    · subst hj; cases at_i h
    · obtain ⟨a, dx, fv, g1, g2, g3, g4⟩ := e.ob j cn fs (low hj h)
      exact ⟨a, dx, fv, by rw [List.getElem?_set_ne (Ne.symm hj)]; exact g1, g2, g3, g4.mono (B := noB) (Chg.refl H) (fun _ z => z.elim) sub⟩
  · have nj := (own_va ⟨j, oj⟩).2 j oj
    have nk := (own_va ⟨k, ok⟩).2 k ok
    exact e.dis j k a ((ownAt_set (Ne.symm nj)).mp oj) ((ownAt_set (Ne.symm nk)).mp ok)
theorem Pers.setVa {i : Nat} {v : V} {d : D} : Pers K st S H σ ρ H (σ.set i (some v)) (ρ.set i (.va d)) := ⟨fun u e r => r.mono (B := noB) (Chg.refl H) (fun _ z => z.elim) fun a z => z.imp id fun q => (own_va q).1, obs_set fun _ _ z => nomatch z⟩
/-- outcomes of a statement -/
def OutS (K : PySem.W.Frag) (W : WX) (st : Stx xi) (S : Addr → Prop) (H0 H : Hp) (σ : L2.St) (ρ : SV) (r : R Fl) (Dn : Ends) : Prop := match r with
  | .ok (.nx ρ') m' => ∀ σ' H', Kept K st S H0 H' m' → EnvS K st S H0 H' σ' ρ' → Pers K st S H σ ρ H' σ' ρ' → Dn.nx σ' H'
  | .ok (.rt d) m' => ∀ v H', Kept K st S H0 H' m' → Rep K st S H' v d → Dn.rt v H'
  | .ok (.rf ds) m' => ∀ p vs H', H0 p = none → Kept K st S H0 H' m' → H' p = some (.lst vs) → RepL K st (fun a => S a ∨ a = p) H' vs ds → Dn.rt (.ref p) H'
  | .ok (.bk ρ') m' => ∀ σ' H', Kept K st S H0 H' m' → EnvS K st S H0 H' σ' ρ' → Pers K st S H σ ρ H' σ' ρ' → Dn.bk σ' H'
  | .ok (.ct ρ') m' => ∀ σ' H', Kept K st S H0 H' m' → EnvS K st S H0 H' σ' ρ' → Pers K st S H σ ρ H' σ' ρ' → Dn.ct σ' H'
  | .ok (.ex c fs ρ') m' => ∀ dd fv σ' H', Kept K st S H0 H' m' → EnvS K st S H0 H' σ' ρ' → H' dd = some (.xd fv) → H0 dd = none → RepF K st S H' fv fs → W (.ref (He.ga K c)) (some dd) σ' H'
  | .err _ _ _ => False
  | .bad => False
def TSD (xi : XI) (K : PySem.W.Frag) (W : WX) (G : SV → M Fl) : L2.TS := fun Dn σ H => ∃ (st : Stx xi) (S : Addr → Prop) (ρ : SV) (m : SM) (H0 : Hp), Kept K st S H0 H m ∧ EnvS K st S H0 H σ ρ ∧ OutS K W st S H0 H σ ρ (G ρ m) Dn
structure SS1 (X : Cx) (W : WX) (s : Stmt) (G : SV → M Fl) : Prop where
  ps : PS X s (TSD X.xi X.K W G)
structure SS (X : Cx) (W : WX) (s : List Stmt) (G : SV → M Fl) : Prop where
  ps : PSs X s (TSD X.xi X.K W G)
theorem PS.imp {X : Cx} {s : Stmt} {t t' : L2.TS} (h : PS X s t) (i : ∀ Dn σ H, t' Dn σ H → t Dn σ H) : PS X s t' := ⟨fun pins s σ H Q I q => h.run pins s σ H Q I (i Q σ H q)⟩
theorem PSs.imp {X : Cx} {s : List Stmt} {t t' : L2.TS} (h : PSs X s t) (i : ∀ Dn σ H, t' Dn σ H → t Dn σ H) : PSs X s t' := ⟨fun pins s σ H Q I q => h.run pins s σ H Q I (i Q σ H q)⟩
/-- an expression within a statement: what it raises leaves with the slots as they stand -/
def exB {α : Type} (x : M α) (ρ : SV) (f : α → M Fl) : M Fl := fun m => match x m with
  | .ok a m' => f a m'
  | .err c fs m' => .ok (.ex c fs ρ) m'
  | .bad => .bad
@[simp] theorem exB_run {α : Type} (x : M α) (ρ : SV) (f : α → M Fl) (m : SM) : exB x ρ f m = match x m with
  | .ok a m' => f a m'
  | .err c fs m' => .ok (.ex c fs ρ) m'
  | .bad => .bad := rfl
theorem OutS.chg {W : WX} {m : SM} {r : R Fl} {Dn : Ends} (k : Kept K st S H0 H m) (c : Chg (atSt st) H H') (o : OutS K W st S H0 H σ ρ r Dn) : OutS K W st S H0 H' σ ρ r Dn := by
  have p : Pers K st S H σ ρ H' σ ρ := Pers.after k c
  cases r with
  | ok f m' =>
    cases f with
    | nx ρ' => exact fun σ' H'' k' e' p' => o σ' H'' k' e' (p.trans p')
    | bk ρ' => exact fun σ' H'' k' e' p' => o σ' H'' k' e' (p.trans p')
    | ct ρ' => exact fun σ' H'' k' e' p' => o σ' H'' k' e' (p.trans p')
    | rt d => exact o
    | rf d => exact o
    | ex c fs ρ' => exact o
  | err c fs m' => exact o
  | bad => exact o
theorem OutS.pers {W : WX} {H1 : Hp} {σ1 : L2.St} {ρ1 : SV} {r : R Fl} {Dn : Ends} (p : Pers K st S H σ ρ H1 σ1 ρ1) (o : OutS K W st S H0 H σ ρ r Dn) : OutS K W st S H0 H1 σ1 ρ1 r Dn := by
  cases r with
  | ok f m' =>
    cases f with
    | nx ρ' => exact fun σ' H'' k' e' p' => o σ' H'' k' e' (p.trans p')
    | bk ρ' => exact fun σ' H'' k' e' p' => o σ' H'' k' e' (p.trans p')
    | ct ρ' => exact fun σ' H'' k' e' p' => o σ' H'' k' e' (p.trans p')
    | rt d => exact o
    | rf d => exact o
    | ex c fs ρ' => exact o
  | err c fs m' => exact o
  | bad => exact o
/-- the expression of a statement by its view -/
theorem TE.stm {W : WX} {F : EV → M D} {f : D → M Fl} {m : SM} {Dn : Ends} {R : V → Hp → Prop} {mk : List Bool} (k : Kept K st S H0 H m) (e : EnvS K st S H0 H σ ρ) (o : OutS K W st S H0 H σ ρ (exB (F (vw mk ρ)) ρ f m) Dn)
    (h : ∀ v d m1 H1, Chg (atSt st) H H1 → Kept K st S H0 H1 m1 → Cov K st (AvM S mk ρ σ) H1 m1 → EnvS K st S H0 H1 σ ρ → Rep K st (AvM S mk ρ σ) H1 v d → OutS K W st S H0 H1 σ ρ (f d m1) Dn → R v H1) : TE xi K W F σ H R := by
  refine ⟨st, _, vw mk ρ, m, k.view e mk, e.view k.dom0 mk, ?_⟩
  rw [exB_run] at o
  cases q : F (vw mk ρ) m with
  | ok d m1 =>
    rw [q] at o
    exact fun v H1 c cv r => h v d m1 H1 c (k.after c cv) cv (e.after k c) r (OutS.chg k c o)
  | err cn fs m1 =>
    rw [q] at o
    exact fun dd fv H1 c cv h1 h2 r => o dd fv σ H1 (k.after c cv) (e.after k c) h1 (k.chg.free h2) (r.mono (B := noB) (Chg.refl H1) (fun _ z => z.elim) fun a z => .inl z)
  | bad => rw [q] at o; exact o.elim
theorem TF.stm {W : WX} {F : EV → M (List D)} {f : List D → M Fl} {m : SM} {Dn : Ends} {R : V → Hp → Prop} {mk : List Bool} (k : Kept K st S H0 H m) (e : EnvS K st S H0 H σ ρ) (o : OutS K W st S H0 H σ ρ (exB (F (vw mk ρ)) ρ f m) Dn)
    (h : ∀ p vs d m1 H1, H p = none → Chg (atSt st) H H1 → Kept K st S H0 H1 m1 → EnvS K st S H0 H1 σ ρ → H1 p = some (.lst vs) → RepL K st (fun a => AvM S mk ρ σ a ∨ a = p) H1 vs d → OutS K W st S H0 H σ ρ (f d m1) Dn → R (.ref p) H1) : TF xi K W F σ H R := by
  refine ⟨st, _, vw mk ρ, m, k.view e mk, e.view k.dom0 mk, ?_⟩
  rw [exB_run] at o
  cases q : F (vw mk ρ) m with
  | ok d m1 =>
    rw [q] at o
    exact fun p vs H1 n c cv hp r => h p vs d m1 H1 n c (k.after c cv) (e.after k c) hp r o
  | err cn fs m1 =>
    rw [q] at o
    exact fun dd fv H1 c cv h1 h2 r => o dd fv σ H1 (k.after c cv) (e.after k c) h1 (k.chg.free h2) (r.mono (B := noB) (Chg.refl H1) (fun _ z => z.elim) fun a z => .inl z)
  | bad => rw [q] at o; exact o.elim
theorem TT.stm {W : WX} {C : EV → M Bool} {f : Bool → M Fl} {m : SM} {Dn : Ends} {R : Bool → Hp → Prop} {mk : List Bool} (k : Kept K st S H0 H m) (e : EnvS K st S H0 H σ ρ) (o : OutS K W st S H0 H σ ρ (exB (C (vw mk ρ)) ρ f m) Dn)
    (h : ∀ d m1 H1, Chg (atSt st) H H1 → Kept K st S H0 H1 m1 → EnvS K st S H0 H1 σ ρ → OutS K W st S H0 H1 σ ρ (f d m1) Dn → R d H1) : TT xi K W C σ H R := by
  refine ⟨st, _, vw mk ρ, m, k.view e mk, e.view k.dom0 mk, ?_⟩
  rw [exB_run] at o
  cases q : C (vw mk ρ) m with
  | ok d m1 =>
    rw [q] at o
    exact fun H1 c cv => h d m1 H1 c (k.after c cv) (e.after k c) (OutS.chg k c o)
  | err cn fs m1 =>
    rw [q] at o
    exact fun dd fv H1 c cv h1 h2 r => o dd fv σ H1 (k.after c cv) (e.after k c) h1 (k.chg.free h2) (r.mono (B := noB) (Chg.refl H1) (fun _ z => z.elim) fun a z => .inl z)
  | bad => rw [q] at o; exact o.elim
end
section
variable {X : Cx} {W : WX} {pos : Pos} {s : Stmt} {ss : List Stmt}
def gSeq (G1 G2 : SV → M Fl) : SV → M Fl := fun ρ => do
  let f ← G1 ρ
  match f with
    | .nx ρ' => G2 ρ'
    | f => pure f
theorem ss_nil : SS X W [] (fun ρ => pure (.nx ρ)) := ⟨PSs.imp pss_nil fun Dn σ H ⟨st, S, ρ, m, H0, k, e, o⟩ => o σ H k e Pers.refl⟩
theorem ss_one {G : SV → M Fl} (h : SS1 X W s G) : SS X W [s] G := ⟨pss_one h.ps⟩
theorem ss_cons {G1 G2 : SV → M Fl} (h1 : SS1 X W s G1) (h2 : SS X W ss G2) : SS X W (s :: ss) (gSeq G1 G2) := by
  refine ⟨PSs.imp (pss_cons h1.ps h2.ps) fun Dn σ H ⟨st, S, ρ, m, H0, k, e, o⟩ => ?_⟩
  refine ⟨st, S, ρ, m, H0, k, e, ?_⟩
  replace o : OutS X.K W st S H0 H σ ρ ((G1 ρ >>= fun f => match f with | .nx ρ' => G2 ρ' | f => pure f) m) Dn := o
  rw [bind_run] at o
  cases q : G1 ρ m with
  | bad => rw [q] at o; exact o.elim
  | err c fs m1 => rw [q] at o; exact o.elim
  | ok f m1 =>
    rw [q] at o
    cases f with
    | nx ρ1 =>
      intro σ1 H1 k1 e1 p1
      exact ⟨st, S, ρ1, m1, H0, k1, e1, OutS.pers p1 o⟩
    | rt d => exact o
    | rf d => exact o
    | bk ρ1 => exact o
    | ct ρ1 => exact o
    | ex c fs ρ1 => exact o
def gAsg (i : Nat) (mk : List Bool) (F : EV → M D) : SV → M Fl := fun ρ => exB (F (vw mk ρ)) ρ fun d => do
  need (mk.isEmpty || d.flat)
  pure (.nx (ρ.set i (.va d)))
theorem ss_asg {i : Nat} {F : EV → M D} (mk : List Bool) (h : PS X s (tAsg (TE X.xi X.K W F) (gName i))) : SS1 X W s (gAsg i mk F) := by
  refine ⟨PS.imp h fun Dn σ H ⟨st, S, ρ, m, H0, k, e, o⟩ => ?_⟩
  refine TE.stm k e o fun v d m1 H1 c1 k1 cv1 e1 r1 o1 => ?_
  obtain ⟨hf, o2⟩ := out_need (P := fun r => OutS X.K W st S H0 H1 σ ρ r Dn) (fun z => z) o1
  have r2 : Rep X.K st (Av S ρ σ) H1 v d := by
    cases mk with
    | nil => exact r1.mono (B := noB) (Chg.refl H1) (fun _ z => z.elim) AvM.nil
    | cons b bs => exact r1.flat (B := noB) (Chg.refl H1) (by simpa using hf)
  exact o2 _ H1 k1 (e1.setVa r2) Pers.setVa
def allM (ρ : SV) : List Bool := ρ.map fun _ => true
def gRet (F : EV → M D) : SV → M Fl := fun ρ => exB (F (vw (allM ρ) ρ)) ρ fun d => pure (.rt d)
theorem ss_ret {e : Expr} {F : EV → M D} (h : SE X W e F) : SS1 X W (.Return (some e) pos) (gRet F) :=
  ⟨PS.imp (ps_ret h.pe) fun Dn σ H ⟨st, S, ρ, m, H0, k, e, o⟩ => TE.stm k e o fun v d m1 H1 c1 k1 cv1 e1 r1 o1 => o1 v H1 k1 (r1.mono (B := noB) (Chg.refl H1) (fun _ z => z.elim) fun a z => .inl z)⟩
def gIf (C : EV → M Bool) (G1 G2 : SV → M Fl) : SV → M Fl := fun ρ => exB (C (vw (allM ρ) ρ)) ρ fun b => if b = true then G1 ρ else G2 ρ
theorem ss_if {c : Expr} {a b : List Stmt} {C : EV → M Bool} {G1 G2 : SV → M Fl} (hc : ST X W c C) (ha : SS X W a G1) (hb : SS X W b G2) : SS1 X W (.If c a b pos) (gIf C G1 G2) := by
  refine ⟨PS.imp (ps_if hc.pt ha.ps hb.ps) fun Dn σ H ⟨st, S, ρ, m, H0, k, e, o⟩ => ?_⟩
  refine TT.stm k e o fun b m1 H1 c1 k1 e1 o1 => ?_
  cases b with
  | true => exact ⟨st, S, ρ, m1, H0, k1, e1, o1⟩
  | false => exact ⟨st, S, ρ, m1, H0, k1, e1, o1⟩
def gBad : SV → M Fl := fun _ => M.bad
theorem ownAt_new {ρ : SV} {σ : L2.St} {i j : Nat} {a p : Addr} {s : Sl} (hs : s.isOwn = true) : OwnAt (ρ.set i s) (σ.set i (some (.ref p))) j a → (j ≠ i ∧ OwnAt ρ σ j a) ∨ (j = i ∧ a = p) := by
  intro o
  by_cases h : j = i
  · subst h
    obtain ⟨⟨s', h1, h2⟩, h3⟩ := o
    have hl : j < σ.length := by
      have := (List.getElem?_eq_some_iff.mp h3).1
      simpa using this
    rw [List.getElem?_set_self hl] at h3
    cases h3
    exact .inr ⟨rfl, rfl⟩
  · exact .inl ⟨h, (ownAt_set (Ne.symm h)).mp o⟩
section
variable {K : PySem.W.Frag} {st : Stx xi} {S : Addr → Prop} {H0 H H' : Hp} {σ : L2.St} {ρ : SV}
theorem EnvS.setOw {i : Nat} {p : Addr} {xs : List D} {vs : List V} {H1 : Hp} {m : SM} (k : Kept K st S H0 H m) (e : EnvS K st S H0 H σ ρ) (n : H p = none) (c : Chg (atSt st) H H1) (hp : H1 p = some (.lst vs)) (r : RepL K st (fun a => Av S ρ σ a ∨ a = p) H1 vs xs) : EnvS K st S H0 H1 (σ.set i (some (.ref p))) (ρ.set i (.ow xs)) ∧ Pers K st S H σ ρ H1 (σ.set i (some (.ref p))) (ρ.set i (.ow xs)) := by
  by_cases hi : i < σ.length
  case neg =>
    have h1 : σ.length ≤ i := by omega
    have h2 : ρ.length ≤ i := by rw [← e.len]; exact h1
    rw [List.set_eq_of_length_le h1, List.set_eq_of_length_le h2]
    exact ⟨e.after k c, Pers.after k c⟩
  have hi' : i < ρ.length := by rw [← e.len]; exact hi
  have sub : ∀ a, Av S (ρ.set i (.ow xs)) (σ.set i (some (.ref p))) a → Av S ρ σ a ∨ H a = none := fun a z => by
    rcases z with z | ⟨j, o⟩
    · exact .inl (.inl z)
    · rcases ownAt_new rfl o with ⟨_, o⟩ | ⟨_, q⟩
      · exact .inl (.inr ⟨j, o⟩)
      · rw [q]; exact .inr n
  have stS : ∀ a, atSt st a → Av S (ρ.set i (.ow xs)) (σ.set i (some (.ref p))) a := fun a z => .inl (k.cov.sub a z)
  have go : ∀ {v : V} {d : D}, Rep K st (Av S ρ σ) H v d → Rep K st (Av S (ρ.set i (.ow xs)) (σ.set i (some (.ref p)))) H1 v d := fun r => (r.wide sub).mono c stS fun _ z => z
  have goL : ∀ {v : List V} {d : List D}, RepL K st (Av S ρ σ) H v d → RepL K st (Av S (ρ.set i (.ow xs)) (σ.set i (some (.ref p)))) H1 v d := fun r => (r.wide sub).mono c stS fun _ z => z
  have goF : ∀ {v : List (Str × V)} {d : List (Str × D)}, RepF K st (Av S ρ σ) H v d → RepF K st (Av S (ρ.set i (.ow xs)) (σ.set i (some (.ref p)))) H1 v d := fun r => (r.wide sub).mono c stS fun _ z => z
  have low : ∀ {j : Nat} {s : Sl}, j ≠ i → (ρ.set i (.ow xs))[j]? = some s → ρ[j]? = some s := fun {j s} h q => by rw [List.getElem?_set_ne (Ne.symm h)] at q; exact q
  have at_i : ∀ {s : Sl}, (ρ.set i (.ow xs))[i]? = some s → s = .ow xs := fun {s} q => by
    rw [List.getElem?_set_self hi'] at q
    exact (Option.some.inj q).symm
  have nst : ∀ a, H0 a = none → ¬ atSt st a := fun a h z => k.not h (k.cov.sub a z)
  refine ⟨⟨fun j u h => ?_, fun j ys h => ?_, fun j cn fs h => ?_, fun j l a oj ok => ?_, by simp [e.len]⟩, fun v d r => go r, obs_set fun _ _ z => nomatch z⟩
  · by_cases hj : j = i
    · subst hj; cases at_i h
    · obtain ⟨u', g1, g2⟩ := e.va j u (low hj h)
      exact ⟨u', by rw [List.getElem?_set_ne (Ne.symm hj)]; exact g1, go g2⟩
  · by_cases hj : j = i
    · subst hj
      cases at_i h
      refine ⟨p, vs, List.getElem?_set_self hi, hp, k.chg.free n, r.mono (B := noB) (Chg.refl H1) (fun _ z => z.elim) fun a z => ?_⟩
      rcases z with z | ⟨j', o⟩
      · exact .inl (.inl z)
      · rcases ownAt_new rfl o with ⟨_, o⟩ | ⟨_, q⟩
        · exact .inl (.inr ⟨j', o⟩)
        · exact .inr q
    · obtain ⟨a, ws, g1, g2, g3, g4⟩ := e.ow j ys (low hj h)
      exact ⟨a, ws, by rw [List.getElem?_set_ne (Ne.symm hj)]; exact g1, c.keep g2 (.inr (nst a g3)), g3, goL g4⟩
  · by_cases hj : j = i
    · subst hj; cases at_i h
    · obtain ⟨a, dx, fv, g1, g2, g3, g4⟩ := e.ob j cn fs (low hj h)
      exact ⟨a, dx, fv, by rw [List.getElem?_set_ne (Ne.symm hj)]; exact g1, c.keep g2 (.inr (nst a g3)), g3, goF g4⟩
  · have ne : ∀ {j : Nat}, OwnAt ρ σ j p → False := fun o => by
      obtain ⟨⟨u, h, _⟩, _⟩ := e.own o
      rw [n] at h; cases h
    rcases ownAt_new rfl oj with ⟨h1, o1⟩ | ⟨h1, q1⟩ <;> rcases ownAt_new rfl ok with ⟨h2, o2⟩ | ⟨h2, q2⟩
    · exact e.dis j l a o1 o2
    · subst q2; exact (ne o1).elim
    · subst q1; exact (ne o2).elim
    · rw [h1, h2]
end
def flatsOk (mk : List Bool) (ds : List D) : Bool := mk.isEmpty || D.flats ds
/-- x = a new list, which this def will change -/
def gNew (i : Nat) (mk : List Bool) (L : EV → M (List D)) : SV → M Fl := fun ρ => exB (L (vw mk ρ)) ρ fun ds => do
  need (flatsOk mk ds)
  pure (.nx (ρ.set i (.ow ds)))
theorem ss_new {i : Nat} {L : EV → M (List D)} (mk : List Bool) (h : PS X s (tAsg (TF X.xi X.K W L) (gName i))) : SS1 X W s (gNew i mk L) := by
  refine ⟨PS.imp h fun Dn σ H ⟨st, S, ρ, m, H0, k, e, o⟩ => ?_⟩
  refine TF.stm k e o fun p vs ds m1 H1 n c1 k1 e1 hp r1 o1 => ?_
  obtain ⟨hf, o2⟩ := out_need (P := fun r => OutS X.K W st S H0 H σ ρ r Dn) (fun z => z) o1
  have r2 : RepL X.K st (fun a => Av S ρ σ a ∨ a = p) H1 vs ds := by
    cases mk with
    | nil => exact r1.mono (B := noB) (Chg.refl H1) (fun _ z => z.elim) fun a z => z.imp (AvM.nil a) id
    | cons b bs => exact r1.flat (B := noB) (Chg.refl H1) (by simpa [flatsOk] using hf)
  obtain ⟨e2, p2⟩ := EnvS.setOw (i := i) k e n c1 hp r2
  exact o2 _ H1 k1 e2 p2
section
variable {K : PySem.W.Frag} {st : Stx xi} {S : Addr → Prop} {H0 H : Hp} {σ : L2.St} {ρ : SV} {m : SM}
theorem own_same {i : Nat} {s s' : Sl} (h : ρ[i]? = some s) (h1 : s.isOwn = true) (h2 : s'.isOwn = true) (j : Nat) (a : Addr) : OwnAt (ρ.set i s') σ j a ↔ OwnAt ρ σ j a := by
  have hl := (List.getElem?_eq_some_iff.mp h).1
  unfold OwnAt
  by_cases hj : j = i
  · subst hj
    rw [List.getElem?_set_self hl, h]
    constructor
    · rintro ⟨_, q⟩; exact ⟨⟨s, rfl, h1⟩, q⟩
    · rintro ⟨_, q⟩; exact ⟨⟨s', rfl, h2⟩, q⟩
  · rw [List.getElem?_set_ne (Ne.symm hj)]
/-- the own list in slot i holds other things -/
theorem EnvS.write {i : Nat} {a : Addr} {xs ys : List D} {vs ws : List V} (k : Kept K st S H0 H m) (e : EnvS K st S H0 H σ ρ) (h : ρ[i]? = some (.ow xs)) (hs : σ[i]? = some (some (.ref a))) (ha : H a = some (.lst vs)) (r : RepL K st (Av S ρ σ) H ws ys) :
    Kept K st S H0 (upd H a (.lst ws)) m ∧ EnvS K st S H0 (upd H a (.lst ws)) σ (ρ.set i (.ow ys)) ∧ Pers K st S H σ ρ (upd H a (.lst ws)) σ (ρ.set i (.ow ys)) := by
  have oi : OwnAt ρ σ i a := ⟨⟨_, h, rfl⟩, hs⟩
  have h0 : H0 a = none := (e.own oi).2
  have hl := (List.getElem?_eq_some_iff.mp h).1
  have same := own_same (σ := σ) (s' := .ow ys) h rfl rfl
  have av : ∀ b, Av S (ρ.set i (.ow ys)) σ b → Av S ρ σ b := fun b z => z.imp id fun ⟨j, o⟩ => ⟨j, (same j b).mp o⟩
  have cw : Chg (fun b => b = a) H (upd H a (.lst ws)) := Chg.write ha rfl rfl
  have sub : ∀ b, b = a → Av S ρ σ b := fun b z => .inr ⟨i, by rw [z]; exact oi⟩
  have nS : ¬ S a := k.not h0
  have low : ∀ {j : Nat} {s : Sl}, j ≠ i → (ρ.set i (.ow ys))[j]? = some s → ρ[j]? = some s := fun {j s} h q => by rw [List.getElem?_set_ne (Ne.symm h)] at q; exact q
  have at_i : ∀ {s : Sl}, (ρ.set i (.ow ys))[i]? = some s → s = .ow ys := fun {s} q => by
    rw [List.getElem?_set_self hl] at q
    exact (Option.some.inj q).symm
  have ne : ∀ {j : Nat} {b : Addr}, j ≠ i → OwnAt ρ σ j b → b ≠ a := fun hj oj z => hj (e.dis _ _ a (by rw [← z]; exact oj) oi)
  refine ⟨⟨k.cov.keep cw fun b z => by rw [z]; exact nS, k.dom0, fun b u q => ?_⟩, ⟨fun j u q => ?_, fun j zs q => ?_, fun j cn fs q => ?_, fun j l b oj ol => e.dis j l b ((same j b).mp oj) ((same l b).mp ol), by simp [e.len]⟩, fun v d q => q.mono cw sub av, obs_set1 fun _ _ z => nomatch z⟩
  · have nb : b ≠ a := fun z => by rw [z, h0] at q; cases q
    rw [upd_ne nb]
    exact k.chg b u q
  · by_cases hj : j = i
    · subst hj; cases at_i q
    · obtain ⟨v, g1, g2⟩ := e.va j u (low hj q)
      exact ⟨v, g1, g2.mono cw sub av⟩
  · by_cases hj : j = i
    · subst hj
      cases at_i q
      exact ⟨a, ws, hs, upd_same, h0, r.mono cw sub av⟩
    · obtain ⟨b, us, g1, g2, g3, g4⟩ := e.ow j zs (low hj q)
      exact ⟨b, us, g1, by rw [upd_ne (ne hj ⟨⟨_, low hj q, rfl⟩, g1⟩)]; exact g2, g3, g4.mono cw sub av⟩
  · by_cases hj : j = i
    · subst hj; cases at_i q
    · obtain ⟨b, dx, fv, g1, g2, g3, g4⟩ := e.ob j cn fs (low hj q)
      exact ⟨b, dx, fv, g1, by rw [upd_ne (ne hj ⟨⟨_, low hj q, rfl⟩, g1⟩)]; exact g2, g3, g4.mono cw sub av⟩
end
/-- giving lists up ahead of a block -/
def frz (i : Nat) (ρ : SV) : SV := match ρ[i]? with
  | some (.ow xs) => ρ.set i (.va (.lst xs))
  | _ => ρ
/-- x.append(e) -/
def gApp (i : Nat) (mk : List Bool) (F : EV → M D) : SV → M Fl := fun ρ => match ρ[i]? with
  | some (.ow xs) => exB (F (vw mk ρ)) ρ fun d => do
    need (mk.isEmpty || d.flat)
    lim (xs.length + 1)
    pure (.nx (ρ.set i (.ow (xs ++ [d]))))
  | _ => M.bad
theorem ss_app {i : Nat} {A : L2.TA} {F : EV → M D} (mk : List Bool) (h : PS X s (tDrop (tBM X.K "list" rAppend (tVar i) A))) (hA : ∀ σ H Q, TE X.xi X.K W F σ H (fun v H' => Q [v] H') → A σ H Q) : SS1 X W s (gApp i mk F) := by
  refine ⟨PS.imp h fun Dn σ H ⟨st, S, ρ, m, H0, k, e, o⟩ => ?_⟩
  unfold gApp at o
  cases q : ρ[i]? with
  | none => rw [q] at o; exact o.elim
  | some sl =>
    rw [q] at o
    cases sl with
    | ow xs =>
      obtain ⟨a, vs, g1, g2, g3, g4⟩ := e.ow i xs q
      refine ⟨.ref a, g1, .inl ⟨rfl, _, SqL.of g2⟩, hA _ _ _ ?_⟩
      refine TE.stm k e o fun v d m1 H1 c1 k1 cv1 e1 r1 o1 => ?_
      obtain ⟨hf, o2⟩ := out_need (P := fun r => OutS X.K W st S H0 H1 σ ρ r Dn) (fun z => z) o1
      obtain ⟨hz, o3⟩ := out_lim (P := fun r => OutS X.K W st S H0 H1 σ ρ r Dn) (fun z => z) o2
      obtain ⟨b, ws, f1, f2, f3, f4⟩ := e1.ow i xs q
      have eb : b = a := by rw [g1] at f1; cases f1; rfl
      subst eb
      have r2 : Rep X.K st (Av S ρ σ) H1 v d := by
        cases mk with
        | nil => exact r1.mono (B := noB) (Chg.refl H1) (fun _ z => z.elim) AvM.nil
        | cons b bs => exact r1.flat (B := noB) (Chg.refl H1) (by simpa using hf)
      obtain ⟨k2, e2, p2⟩ := EnvS.write k1 e1 q f1 f2 (f4.append (.cons r2 .nil))
      refine ⟨b, ws, v, rfl, rfl, f2, ?_, o3 σ _ k2 e2 p2⟩
      rw [f4.length]
      omega
    | no => exact o.elim
    | va d => exact o.elim
    | ob c fs => exact o.elim
/-- a target is bound -/
def bName (i : Nat) : D → SV → Option SV := fun d ρ => some (ρ.set i (.va d))
def loopS (bnd : D → SV → Option SV) (B : SV → M Fl) : List D → SV → M Fl
  | [], ρ => pure (.nx ρ)
  | d :: ds, ρ => match bnd d ρ with
    | none => M.bad
    | some ρ1 => do
      let f ← B ρ1
      match f with
        | .nx ρ' => loopS bnd B ds ρ'
        | .ct ρ' => loopS bnd B ds ρ'
        | .bk ρ' => pure (.nx ρ')
        | .rt d => pure (.rt d)
        | .rf d => pure (.rf d)
        | .ex c fs ρ' => pure (.ex c fs ρ')
def gFor (I : EV → M (List D)) (bnd : D → SV → Option SV) (B : SV → M Fl) : SV → M Fl := fun ρ => exB (I (vw [] ρ)) ρ fun ds => loopS bnd B ds ρ
/-- what binding does in the machine -/
def BndOk (pr : Bool) (K : PySem.W.Frag) (g : TG) (bnd : D → SV → Option SV) : Prop := ∀ {xi : XI} (st : Stx xi) (S : Addr → Prop) (H0 H : Hp) (σ : L2.St) (ρ ρ1 : SV) (m : SM) (v : V) (d : D) (Q : L2.St → Hp → Prop), Kept K st S H0 H m → EnvS K st S H0 H σ ρ → RepW pr K st (Av S ρ σ) H v d → bnd d ρ = some ρ1 →
  (∀ σ1, EnvS K st S H0 H σ1 ρ1 → Pers K st S H σ ρ H σ1 ρ1 → Q σ1 H) → g v σ H Q
theorem bnd_name {K : PySem.W.Frag} {i : Nat} : BndOk false K (gName i) (bName i) := fun st S H0 H σ ρ ρ1 m v d Q k e r h q => by
  cases h
  exact q _ (e.setVa r) Pers.setVa
def bPair (i j : Nat) : D → SV → Option SV
  | .tup [a, b], ρ => some ((ρ.set i (.va a)).set j (.va b))
  | _, _ => none
theorem bnd_pair {K : PySem.W.Frag} {i j : Nat} : BndOk true K (gTup K 2 (gCons (gName i) (gCons (gName j) gNil))) (bPair i j) := fun st S H0 H σ ρ ρ1 m v d Q k e r h q => by
  obtain ⟨T, x, y, d1, d2, e1, e2, hq, r1, r2⟩ := r
  subst e1 e2
  cases h
  have p1 : Pers K st S H σ ρ H (σ.set i (some x)) (ρ.set i (.va d1)) := Pers.setVa
  exact ⟨T, [x, y], rfl, hq, rfl, x, [y], rfl, y, [], rfl, rfl, q _ ((e.setVa r1).setVa (p1.rep _ _ r2)) (p1.trans Pers.setVa)⟩
theorem ss_for {pr : Bool} {tg iter : Expr} {body : List Stmt} {I : EV → M (List D)} {g : TG} {bnd : D → SV → Option SV} {B : SV → M Fl} (hp : PassesOwn (model X.prog X.w) X.A X.env X.xe) (hc : X.calm = true) (hI : SI pr X W tg iter I) (hg : PG X tg g) (hb : BndOk pr X.K g bnd) (hB : SS X W body B)
    (hs : ∀ x, foldedSetIterable iter X.env x = pure x := by intro _; rfl) : SS1 X W (.For tg iter body [] pos) (gFor I bnd B) := by
  refine ⟨PS.imp (ps_for hp hc hI.pi hg hB.ps hs) fun Dn σ H ⟨st, S, ρ, m, H0, k, e, o⟩ => ?_⟩
  refine ⟨st, _, vw [] ρ, m, k.view e [], e.view k.dom0 [], ?_⟩
  replace o : OutS X.K W st S H0 H σ ρ (exB (I (vw [] ρ)) ρ (fun ds => loopS bnd B ds ρ) m) Dn := o
  rw [exB_run] at o
  cases q : I (vw [] ρ) m with
  | bad => rw [q] at o; exact o.elim
  | err cn fs m1 =>
    rw [q] at o
    exact fun dd fv H1 c cv h1 h2 r => o dd fv σ H1 (k.after c cv) (e.after k c) h1 (k.chg.free h2) (r.mono (B := noB) (Chg.refl H1) (fun _ z => z.elim) fun a z => .inl z)
  | ok ds m1 =>
    rw [q] at o
    intro J vs0 ds0 H1 c1 cv1 r0 wd
    have k1 := k.after c1 cv1
    have e1 := e.after k c1
    have r1 : RepL X.K st (Av S ρ σ) H1 vs0 ds0 := r0.mono (B := noB) (Chg.refl H1) (fun _ z => z.elim) AvM.nil
    have o1 := OutS.chg k c1 o
    refine ⟨fun j n σ' H' => n = ds.length - j ∧ j ≤ ds.length ∧ ∃ ρ' m', Kept X.K st S H0 H' m' ∧ EnvS X.K st S H0 H' σ' ρ' ∧ Pers X.K st S H1 σ ρ H' σ' ρ' ∧ OutS X.K W st S H0 H1 σ ρ (loopS bnd B (ds.drop j) ρ' m') Dn, ?_, ?_⟩
    · exact ⟨ds.length, by simp, Nat.zero_le _, ρ, m1, k1, e1, Pers.refl, by rw [List.drop_zero]; exact o1⟩
    · rintro j n σ' H' ⟨rfl, hj, ρ', m', k', e', p', o'⟩
      have r' := p'.list r1
      by_cases hlt : j < ds.length
      · refine .inr ⟨wd.goes _ H' j hlt r', _, fun σ2 H2 p2 => ⟨ds.length - (j + 1), by omega, rfl, hlt, p2⟩, fun x H2 y => ?_⟩
        obtain ⟨d, hd, cy, rx⟩ := wd.yields _ H' j x H2 hlt r' y
        have hdrop : ds.drop j = d :: ds.drop (j + 1) := by
          obtain ⟨h1, h2⟩ := List.getElem?_eq_some_iff.mp hd
          rw [← h2, List.drop_eq_getElem_cons h1]
        rw [hdrop, loopS] at o'
        have cy' : Chg (atSt st) H' H2 := cy.mono fun _ z => z.elim
        have k2 : Kept X.K st S H0 H2 m' := ⟨k'.cov.keep cy fun _ z => z.elim, k'.dom0, k'.chg.trans cy'⟩
        have e2 := e'.after k' cy'
        have p2 := p'.trans (Pers.after (σ := σ') (ρ := ρ') k' cy')
        cases hbn : bnd d ρ' with
        | none => rw [hbn] at o'; exact o'.elim
        | some ρ1 =>
          rw [hbn] at o'
          refine hb st S H0 H2 σ' ρ' ρ1 m' x d _ k2 e2 rx hbn fun σ1 e3 p3 => ?_
          refine ⟨st, S, ρ1, m', H0, k2, e3, ?_⟩
          replace o' : OutS X.K W st S H0 H1 σ ρ ((B ρ1 >>= fun f => match f with
            | .nx ρ' => loopS bnd B (ds.drop (j + 1)) ρ'
            | .ct ρ' => loopS bnd B (ds.drop (j + 1)) ρ'
            | .bk ρ' => pure (.nx ρ')
            | .rt d => pure (.rt d)
            | .rf d => pure (.rf d)
            | .ex c fs ρ' => pure (.ex c fs ρ')) m') Dn := o'
          rw [bind_run] at o'
          have p13 := p2.trans p3
          cases qB : B ρ1 m' with
          | bad => rw [qB] at o'; exact o'.elim
          | err cn fs m2 => rw [qB] at o'; exact o'.elim
          | ok f m2 =>
            rw [qB] at o'
            cases f with
            | nx ρ2 => exact fun σ4 H4 k4 e4 p4 => ⟨ρ2, m2, k4, e4, p13.trans p4, o'⟩
            | ct ρ2 => exact fun σ4 H4 k4 e4 p4 => ⟨ρ2, m2, k4, e4, p13.trans p4, o'⟩
            | bk ρ2 => exact fun σ4 H4 k4 e4 p4 => o' σ4 H4 k4 e4 (p13.trans p4)
            | rt d => exact o'
            | rf d => exact o'
            | ex cn fs ρ2 => exact o'
      · have ej : j = ds.length := by omega
        subst ej
        rw [List.drop_length, loopS] at o'
        exact .inl ⟨wd.stops _ H' r', o' σ' H' k' e' p'⟩
def runF (p n : Nat) (G : SV → M Fl) : List D → M D := fun ds m => if ds.length = p then (match G (ds.map .va ++ List.replicate (n - p) .no) m with
  | .ok (.rt d) m' => .ok d m'
  | .ok (.rf ds) m' => .ok (.lst ds) m'
  | .ok (.nx _) m' => .ok .non m'
  | .ok (.ex c fs _) m' => .err c fs m'
  | _ => .bad) else .bad
abbrev wE (E : XK) : WX := fun cls d _ H => E cls d H
theorem fn_den {P : Program} {w : World} {K : PySem.W.Frag} {mg : Str → Option Value} {base : Heap} {x qual : Str} {params : Arguments} {body : List Stmt} {scope : Scope} {dvs : List V} {kws : List (Str × V)} {f : Addr} {fd : FuncData} {N ps : List Str} {k : Nat} {G : SV → M Fl}
    (F : FunD K x qual params body scope dvs kws f fd) (Sc : FnScope N ps scope)
    (hb : ∀ (cdv : Value) (A : Around) (outer : List Env) (s : Shared) (H : Hp) (E : XK), Room k (A.deeper (envOfC qual scope s.heap.objs.size f cdv)) → SS (cxOf (L2N.CX P w) P w K mg base N qual scope f cdv A outer s H E) (wE E) body G) :
    FnOk P w K mg base (L2N.CX P w) (k + 1) f fd ps (spOf K (runF ps.length N.length G)) := by
  refine F.ok Sc (fun vs H Q E ⟨st, S, ds, m, cv, r, o⟩ => ?_) fun cdv A outer s H vs Q E hr ⟨st, S, ds, m, cv, r, o⟩ => ⟨_, (by have z := (hb cdv A outer s H E hr).ps; rw [xi_room (X := cxOf (L2N.CX P w) P w K mg base N qual scope f cdv A outer s H E) hr] at z; exact z), ?_⟩
  · unfold runF at o
    by_cases h : ds.length = ps.length
    · rw [r.length, h]
    · rw [if_neg h] at o; exact o.elim
  · unfold runF at o
    by_cases h : ds.length = ps.length
    case neg => rw [if_neg h] at o; exact o.elim
    rw [if_pos h] at o
    have hl : vs.length = ps.length := r.length.trans h
    have noOwn : ∀ i a, ¬ OwnAt (ds.map .va ++ List.replicate (N.length - ps.length) .no) (L2.start N vs) i a := fun i a ⟨⟨s, h1, h2⟩, _⟩ => by
      have hm := List.mem_of_getElem? h1
      rcases List.mem_append.mp hm with hm | hm
      · obtain ⟨d, _, e⟩ := List.mem_map.mp hm
        rw [← e] at h2; cases h2
      · rw [(List.mem_replicate.mp hm).2] at h2; cases h2
    have low : ∀ (i : Nat) (sl : Sl), (ds.map Sl.va ++ List.replicate (N.length - ps.length) Sl.no)[i]? = some sl → (∃ d, ds[i]? = some d ∧ sl = .va d) ∨ sl = .no := fun i sl h1 => by
      by_cases hi : i < ds.length
      · rw [List.getElem?_append_left (by simpa using hi), List.getElem?_map] at h1
        obtain ⟨d, h2, h3⟩ := Option.map_eq_some_iff.mp h1
        exact .inl ⟨d, h2, h3.symm⟩
      · rw [List.getElem?_append_right (by simpa using hi)] at h1
        exact .inr (List.mem_replicate.mp (List.mem_of_getElem? h1)).2
    have kk : Kept K st S H H m := ⟨cv, cv.dom, Chg.refl H⟩
    have ee : EnvS K st S H H (L2.start N vs) (ds.map .va ++ List.replicate (N.length - ps.length) .no) := by
      refine ⟨fun i d h1 => ?_, fun i xs h1 => ?_, fun i c fs h1 => ?_, fun i j a oi => (noOwn i a oi).elim, ?_⟩
      · rcases low i _ h1 with ⟨d', h2, h3⟩ | h3
        · cases h3
          obtain ⟨v, g1, g2⟩ := r.get h2
          refine ⟨v, ?_, g2.mono (B := noB) (Chg.refl H) (fun _ z => z.elim) fun a z => z.elim id fun ⟨i, oi⟩ => (noOwn i a oi).elim⟩
          unfold L2.start
          rw [List.getElem?_append_left (by simpa using (List.getElem?_eq_some_iff.mp g1).1), List.getElem?_map, g1]; rfl
        · cases h3
      · rcases low i _ h1 with ⟨d', h2, h3⟩ | h3 <;> cases h3
      · rcases low i _ h1 with ⟨d', h2, h3⟩ | h3 <;> cases h3
      · unfold L2.start
        simp [hl, h]
    refine ⟨st, S, _, m, H, kk, ee, ?_⟩
    cases q : G (ds.map .va ++ List.replicate (N.length - ps.length) .no) m with
    | bad => rw [q] at o; exact o.elim
    | err c fs m1 => rw [q] at o; exact o.elim
    | ok f m1 =>
      rw [q] at o
      cases f with
      | nx ρ1 => exact fun σ1 H1 k1 e1 p1 => o .non H1 k1.chg k1.cov .non
      | rt d => exact fun v H1 k1 r1 => o v H1 k1.chg k1.cov r1
      | rf d => exact fun p vs H1 n1 k1 h1 r1 => o _ H1 k1.chg k1.cov (.lst (k1.not n1) h1 (r1.mono (B := noB) (Chg.refl H1) (fun _ z => z.elim) fun a z => .inl z))
      | ex c fs ρ1 => exact fun dd fv σ1 H1 k1 e1 h1 h2 r1 => o dd fv H1 k1.chg k1.cov h1 h2 r1
      | bk ρ1 => exact o.elim
      | ct ρ1 => exact o.elim
/-- a def that returns a list of its own -/
def spFr (K : PySem.W.Frag) (g : List D → M (List D)) : Sp := fun vs H Q E => ∃ (st : Stx none) (S : Addr → Prop) (ds : List D) (m : SM), Cov K st S H m ∧ RepL K st S H vs ds ∧ OutF K st S H (g ds m) Q E
def runFF (p n : Nat) (G : SV → M Fl) : List D → M (List D) := fun ds m => if ds.length = p then (match G (ds.map .va ++ List.replicate (n - p) .no) m with
  | .ok (.rf ds) m' => .ok ds m'
  | .ok (.ex c fs _) m' => .err c fs m'
  | _ => .bad) else .bad
theorem fn_denF {P : Program} {w : World} {K : PySem.W.Frag} {mg : Str → Option Value} {base : Heap} {x qual : Str} {params : Arguments} {body : List Stmt} {scope : Scope} {dvs : List V} {kws : List (Str × V)} {f : Addr} {fd : FuncData} {N ps : List Str} {k : Nat} {G : SV → M Fl}
    (F : FunD K x qual params body scope dvs kws f fd) (Sc : FnScope N ps scope)
    (hb : ∀ (cdv : Value) (A : Around) (outer : List Env) (s : Shared) (H : Hp) (E : XK), Room k (A.deeper (envOfC qual scope s.heap.objs.size f cdv)) → SS (cxOf (L2N.CX P w) P w K mg base N qual scope f cdv A outer s H E) (wE E) body G) :
    FnOk P w K mg base (L2N.CX P w) (k + 1) f fd ps (spFr K (runFF ps.length N.length G)) := by
  refine F.ok Sc (fun vs H Q E ⟨st, S, ds, m, cv, r, o⟩ => ?_) fun cdv A outer s H vs Q E hr ⟨st, S, ds, m, cv, r, o⟩ => ⟨_, (by have z := (hb cdv A outer s H E hr).ps; rw [xi_room (X := cxOf (L2N.CX P w) P w K mg base N qual scope f cdv A outer s H E) hr] at z; exact z), ?_⟩
  · unfold runFF at o
    by_cases h : ds.length = ps.length
    · rw [r.length, h]
    · rw [if_neg h] at o; exact o.elim
  · unfold runFF at o
    by_cases h : ds.length = ps.length
    case neg => rw [if_neg h] at o; exact o.elim
    rw [if_pos h] at o
    have hl : vs.length = ps.length := r.length.trans h
    have noOwn : ∀ i a, ¬ OwnAt (ds.map .va ++ List.replicate (N.length - ps.length) .no) (L2.start N vs) i a := fun i a ⟨⟨s, h1, h2⟩, _⟩ => by
      have hm := List.mem_of_getElem? h1
      rcases List.mem_append.mp hm with hm | hm
      · obtain ⟨d, _, e⟩ := List.mem_map.mp hm
        rw [← e] at h2; cases h2
      · rw [(List.mem_replicate.mp hm).2] at h2; cases h2
    have low : ∀ (i : Nat) (sl : Sl), (ds.map Sl.va ++ List.replicate (N.length - ps.length) Sl.no)[i]? = some sl → (∃ d, ds[i]? = some d ∧ sl = .va d) ∨ sl = .no := fun i sl h1 => by
      by_cases hi : i < ds.length
      · rw [List.getElem?_append_left (by simpa using hi), List.getElem?_map] at h1
        obtain ⟨d, h2, h3⟩ := Option.map_eq_some_iff.mp h1
        exact .inl ⟨d, h2, h3.symm⟩
      · rw [List.getElem?_append_right (by simpa using hi)] at h1
        exact .inr (List.mem_replicate.mp (List.mem_of_getElem? h1)).2
    have kk : Kept K st S H H m := ⟨cv, cv.dom, Chg.refl H⟩
    have ee : EnvS K st S H H (L2.start N vs) (ds.map .va ++ List.replicate (N.length - ps.length) .no) := by
      refine ⟨fun i d h1 => ?_, fun i xs h1 => ?_, fun i c fs h1 => ?_, fun i j a oi => (noOwn i a oi).elim, ?_⟩
      · rcases low i _ h1 with ⟨d', h2, h3⟩ | h3
        · cases h3
          obtain ⟨v, g1, g2⟩ := r.get h2
          refine ⟨v, ?_, g2.mono (B := noB) (Chg.refl H) (fun _ z => z.elim) fun a z => z.elim id fun ⟨i, oi⟩ => (noOwn i a oi).elim⟩
          unfold L2.start
          rw [List.getElem?_append_left (by simpa using (List.getElem?_eq_some_iff.mp g1).1), List.getElem?_map, g1]; rfl
        · cases h3
      · rcases low i _ h1 with ⟨d', h2, h3⟩ | h3 <;> cases h3
      · rcases low i _ h1 with ⟨d', h2, h3⟩ | h3 <;> cases h3
      · unfold L2.start
        simp [hl, h]
    refine ⟨st, S, _, m, H, kk, ee, ?_⟩
    cases q : G (ds.map .va ++ List.replicate (N.length - ps.length) .no) m with
    | bad => rw [q] at o; exact o.elim
    | err c fs m1 => rw [q] at o; exact o.elim
    | ok f m1 =>
      rw [q] at o
      cases f with
      | rf d => exact fun p vs H1 n1 k1 h1 r1 => o p vs H1 n1 k1.chg k1.cov h1 r1
      | nx _ => exact o.elim
      | rt _ => exact o.elim
      | ex c fs ρ1 => exact fun dd fv σ1 H1 k1 e1 h1 h2 r1 => o dd fv H1 k1.chg k1.cov h1 h2 r1
      | bk ρ1 => exact o.elim
      | ct ρ1 => exact o.elim
end
end Den
set_option Elab.async false
set_option linter.all false
set_option maxRecDepth 100000
set_option maxHeartbeats 4000000
namespace Den
open PySem PySem.Spec PyProof.Rows L2
section
variable {X : Cx} {W : WX} {pos : Pos} {e : Expr} {F : EV → M D} {k : Nat} {fa : Addr} {fd : FuncData} {ps : List Str} {c f : Str}
/-- e.f, an attribute -/
def dFld (c f : Str) : D → M D
  | .obj c' fs => if c' = c then ofO (fs.lookup f) else M.bad
  | _ => M.bad
def gFld (c f : Str) (F : EV → M D) : EV → M D := fun ρ => do let x ← F ρ; dFld c f x
theorem se_fld (C : Cls X.K (He.ga X.K c)) (n : NoAttr X.K (He.ga X.K c) f) (h : SE X W e F) (hb : attributeBase e f X.env (eval e X.env) = eval e X.env := by rfl) : SE X W (.Attribute e f pos) (gFld c f F) := by
  refine .imp (pe_fld h.pe hb) fun σ H Q ⟨st, S, ρ, m, cv, er, o⟩ => ?_
  refine TE.bind (G := fun x _ => dFld c f x) cv er o fun v d m1 H1 c1 cv1 er1 r1 o1 => ?_
  cases r1 with
  | @obj a dx c' fv fs na ha rf =>
    replace o1 : Out X.K st S H1 ((if c' = c then ofO (fs.lookup f) else M.bad) m1) Q (WE W σ) := o1
    by_cases hc : c' = c
    · rw [if_pos hc] at o1
      subst hc
      obtain ⟨d, hd, o2⟩ := out_ofO o1
      obtain ⟨v, h1, h2⟩ := rf.get hd
      exact ⟨a, _, dx, fv, v, rfl, ha, C, n, h1, out_pure cv1 o2 h2⟩
    · rw [if_neg hc] at o1; exact o1.elim
  | _ => exact o1.elim
/-- an object of the class c -/
def isObj (c : Str) : D → Bool
  | .obj c' _ => decide (c' = c)
  | _ => false
theorem rep_obj {K : PySem.W.Frag} {st : Stx xi} {S : Addr → Prop} {H : Hp} {v : V} {d : D} (r : Rep K st S H v d) (h : isObj c d = true) : ∃ a dx fv, v = .ref a ∧ H a = some (.ins (He.ga K c) dx fv) := by
  cases r <;> try (cases h; done)
  rename_i na ha rf
  have hc := of_decide_eq_true h
  subst hc
  exact ⟨_, _, _, rfl, ha⟩
/-- e.f, a property whose getter is read as g -/
def gProp (c : Str) (g : List D → M D) (F : EV → M D) : EV → M D := fun ρ => do let x ← F ρ; need (isObj c x); noErr (g [x])
theorem out_noErr {K : PySem.W.Frag} {st : Stx xi} {S : Addr → Prop} {H : Hp} {x : M D} {m : SM} {Q : VK} {E E' : XK} (o : Out K st S H (noErr x m) Q E) : Out K st S H (x m) Q E' := by
  rcases noErr_cases x m with ⟨a, m', h1, h2⟩ | h
  · rw [h2] at o; rw [h1]; exact o
  · rw [h] at o; exact o.elim
theorem passN {X : Cx} : Passes (L2N.CX X.prog X.w) X.nox E0 := passL (X := X.nox)
theorem se_prop {p : Addr} {g : List D → M D} (C : Cls X.K (He.ga X.K c)) (hp : PropOf X.K (He.ga X.K c) f p fa) (Fn : FnOk X.prog X.w X.K X.mg X.base (L2N.CX X.prog X.w) k fa fd ps (spOf X.K g)) (hr : Room (k + 1) X.A) (hb : Binds X.K fd ps []) (h : SE X W e F)
    (hab : attributeBase e f X.env (eval e X.env) = eval e X.env := by rfl) : SE X W (.Attribute e f pos) (gProp c g F) := by
  refine .imp (pe_prop h.pe C hp Fn hr hb .nil passN hab) fun σ H Q h => ?_
  rw [xi_room hr] at h ⊢
  obtain ⟨st, S, ρ, m, cv, er, o⟩ := h
  refine TE.bind (G := fun x _ => do need (isObj c x); noErr (g [x])) cv er o fun v d m1 H1 c1 cv1 er1 r1 o1 => ?_
  obtain ⟨hc, o2⟩ := out_need (P := fun r => Out X.K st S H1 r Q (WE W σ)) (fun z => z) o1
  obtain ⟨a, dx, fv, e1, e2⟩ := rep_obj r1 hc
  subst e1
  exact ⟨a, dx, fv, rfl, e2, st, S, [d], m1, cv1, .cons r1 .nil, out_noErr o2⟩
/-- ~e of an own class -/
def gInv (c : Str) (g : List D → M D) (F : EV → M D) : EV → M D := fun ρ => do let x ← F ρ; need (isObj c x); g [x]
inductive Cl where
  | ty (n : String) | own (c : Str)
def D.tyn : D → String
  | .non => "NoneType"
  | .bl _ => "bool"
  | .int _ => "int"
  | .str _ => "str"
  | .tup _ => "tuple"
  | _ => "list"
/-- is it of this class (oc: the one own class that is known) -/
def isCl (d : D) : Cl → Bool
  | .ty n => (match d with
    | .obj _ _ => false
    | _ => d.tyn == n || (d.tyn == "bool" && n == "int"))
  | .own c => isObj c d
def Cl.v (K : PySem.W.Frag) : Cl → Value
  | .ty n => .type n
  | .own c => .ref (He.ga K c)
def Cl.okB (oc : Option Str) : Cl → Bool
  | .ty n => ["bool", "int", "str", "tuple", "list"].contains n
  | .own c => oc == some c
/-- what K knows of the class, for isinstance -/
structure InstC (K : PySem.W.Frag) (c : Str) : Prop where
  cls : Cls K (He.ga K c)
  cl : PySem.W.findIn K (.ref (He.ga K c)) "__class__" = some (some (.builtin "object.__class__"))
  get : PySem.W.specialIn K (.builtin "object.__class__") "__get__" = some (some (.builtin "getset_descriptor.__get__"))
  tak : PySem.W.takesIn K (.builtin "object.__class__") = some true
  mro : PySem.W.mroIn K (He.ga K c) (.type "object") = some true
  of_ty : ∀ n ∈ ["NoneType", "bool", "int", "str", "tuple", "list"], PySem.W.kitOne K (.type n) (.ref (He.ga K c)) = some false
  to_ty : ∀ n ∈ ["bool", "int", "str", "tuple", "list"], PySem.W.kitOne K (.ref (He.ga K c)) (.type n) = some false
/-- things that isinstance is asked of: data, or objects of the class oc -/
def D.plainOr (oc : Option Str) : D → Bool
  | .obj c _ => oc == some c
  | .sto => false
  | .scr _ => false
  | .exc _ _ => false
  | .rng _ _ => false
  | _ => true
def D.tyV (K : PySem.W.Frag) : D → Value
  | .obj c _ => .ref (He.ga K c)
  | d => .type d.tyn
theorem rep_ty {K : PySem.W.Frag} {st : Stx xi} {S : Addr → Prop} {H : Hp} {v : V} {d : D} {oc : Option Str} (hc : ∀ c, oc = some c → InstC K c) (r : Rep K st S H v d) (h : d.plainOr oc = true) : TyX K H v (d.tyV K) := by
  cases r with
  | non => exact .base .non
  | bl b => exact .base (.bl b)
  | int i => exact .base (.int i)
  | str x => exact .base (.str x)
  | tup hs _ =>
    rcases hs with ⟨o, hs, _⟩ | ⟨o, its, n, hk, hc, _⟩
    · exact .fTuple hs
    · exact .kTuple hk hc
  | lst _ hs _ => exact .base (.lst hs)
  | obj _ hs _ =>
    have z := hc _ (eq_of_beq h)
    exact .base (.ins hs z.cls z.cl z.get z.tak z.mro)
  | sto _ => cases h
  | exc _ _ _ _ _ _ => cases h
  | rng _ => cases h
  | scr _ => cases h
theorem kit_tab : ∀ a ∈ ["NoneType", "bool", "int", "str", "tuple", "list"], ∀ b ∈ ["bool", "int", "str", "tuple", "list"], kitB a b = some (a == b || (a == "bool" && b == "int")) := by decide +kernel
theorem kit_one {K : PySem.W.Frag} {oc : Option Str} (hc : ∀ c, oc = some c → InstC K c) {d : D} {cl : Cl} (h : d.plainOr oc = true) (hl : cl.okB oc = true) : PySem.W.kitOne K (d.tyV K) (cl.v K) = some (isCl d cl) := by
  cases cl with
  | own c =>
    have z := hc c (eq_of_beq hl)
    cases d with
    | obj c' fs =>
      have e : c' = c := by
        have h1 : oc = some c' := eq_of_beq h
        have h2 : oc = some c := eq_of_beq hl
        rw [h1] at h2; exact Option.some.inj h2
      subst e
      show PySem.W.kitOne K (.ref (He.ga K c')) (.ref (He.ga K c')) = some (decide (c' = c'))
      unfold PySem.W.kitOne
      simp
    | sto => cases h
    | exc _ _ => cases h
    | rng _ _ => cases h
    | scr _ => cases h
    | non => exact z.of_ty "NoneType" (by simp)
    | bl _ => exact z.of_ty "bool" (by simp)
    | int _ => exact z.of_ty "int" (by simp)
    | str _ => exact z.of_ty "str" (by simp)
    | tup _ => exact z.of_ty "tuple" (by simp)
    | lst _ => exact z.of_ty "list" (by simp)
  | ty n =>
    have hn : n ∈ ["bool", "int", "str", "tuple", "list"] := by
      have : ["bool", "int", "str", "tuple", "list"].contains n = true := hl
      exact List.contains_iff_mem.mp this
    cases d with
    | obj c' fs =>
      have z := hc c' (eq_of_beq h)
      exact z.to_ty n hn
    | sto => cases h
    | exc _ _ => cases h
    | rng _ _ => cases h
    | scr _ => cases h
    | non => exact kit_ty (kit_tab "NoneType" (by simp) n hn)
    | bl _ => exact kit_ty (kit_tab "bool" (by simp) n hn)
    | int _ => exact kit_ty (kit_tab "int" (by simp) n hn)
    | str _ => exact kit_ty (kit_tab "str" (by simp) n hn)
    | tup _ => exact kit_ty (kit_tab "tuple" (by simp) n hn)
    | lst _ => exact kit_ty (kit_tab "list" (by simp) n hn)
theorem kit_any {K : PySem.W.Frag} {oc : Option Str} (hc : ∀ c, oc = some c → InstC K c) {d : D} (h : d.plainOr oc = true) : ∀ {cls : List Cl}, cls.all (fun cl => cl.okB oc) = true → PySem.W.kitAny K (d.tyV K) (cls.map (Cl.v K)) = some (cls.any (isCl d))
  | [], _ => kitAny_nil
  | cl :: r, hl => by
    rw [List.all_cons] at hl
    obtain ⟨h1, h2⟩ := Bool.and_eq_true_iff.mp hl
    rw [List.any_cons]
    refine kitAny_cons (b := isCl d cl) (kit_one hc h h1) (fun e => ?_) fun e => ?_
    · rw [e, Bool.false_or]
      exact kit_any hc h h2
    · rw [e, Bool.true_or]
def gIsi (oc : Option Str) (cls : List Cl) (F : EV → M D) : EV → M D := fun ρ => do let x ← F ρ; need (x.plainOr oc); pure (.bl (cls.any (isCl x)))
/-- isinstance(e, T): hT reads T as a value -/
theorem se_isi {oc : Option Str} {cl : Cl} {t : Expr} {p : Pos} {vc : V} (hc : ∀ c, oc = some c → InstC X.K c) (hl : cl.okB oc = true) (ha : SE X W e F) (hT : PE X t (tC vc)) (hv : ClsV vc (cl.v X.K)) (hg : Gl X "isinstance") (hm : X.mg "isinstance" = none)
    (he : starEach (e :: [t]) X.env = (false, eval e X.env) :: starEach [t] X.env := by rfl) (he2 : starEach [t] X.env = (false, eval t X.env) :: starEach [] X.env := by rfl) (hpl : (backTo pos (starEach [t] X.env)).any (·.1) = false := by rfl) :
    SE X W (.Call (.Name "isinstance" p) [e, t] [] pos) (gIsi oc [cl] F) := by
  refine .imp (pe_callB call_isi hg hm (by decide +kernel) (pa_cons ha.pe (pa_cons hT pa_nil he2) he) (by decide) (by decide) he hpl) fun σ H Q ⟨st, S, ρ, m, cv, er, o⟩ => ?_
  refine TE.bind (G := fun x _ => do need (x.plainOr oc); pure (.bl ([cl].any (isCl x)))) cv er o fun v d m1 H1 c1 cv1 er1 r1 o1 => ?_
  obtain ⟨h, o2⟩ := out_need (P := fun r => Out X.K st S H1 r Q (WE W σ)) (fun z => z) o1
  refine ⟨v, vc, _, _, _, rfl, hv, rep_ty hc r1 h, kit_one hc h hl, ?_⟩
  have := out_pure (v := .bl ([cl].any (isCl d))) cv1 o2 (.bl _)
  simpa using this
/-- isinstance(e, (T, ..)) -/
theorem se_isiT {oc : Option Str} {cls : List Cl} {ts : List Expr} {x1} {p tpos : Pos} {vs : List V} (hc : ∀ c, oc = some c → InstC X.K c) (hl : cls.all (fun cl => cl.okB oc) = true) (ha : SE X W e F) (hT : PA X ts (fun _ H Q => Q vs H)) (hv : Paired ClsV vs (cls.map (Cl.v X.K))) (hz : vs.length ≤ 1000) (hg : Gl X "isinstance") (hm : X.mg "isinstance" = none)
    (he : starEach (e :: [.Tuple ts x1 tpos]) X.env = (false, eval e X.env) :: starEach [.Tuple ts x1 tpos] X.env := by rfl) (he2 : starEach [.Tuple ts x1 tpos] X.env = (false, eval (.Tuple ts x1 tpos) X.env) :: starEach [] X.env := by rfl) (hpl : (backTo pos (starEach [.Tuple ts x1 tpos] X.env)).any (·.1) = false := by rfl) :
    SE X W (.Call (.Name "isinstance" p) [e, .Tuple ts x1 tpos] [] pos) (gIsi oc cls F) := by
  refine .imp (pe_callB call_isiT hg hm (by decide +kernel) (pa_cons ha.pe (pa_cons (pe_tup hT) pa_nil he2) he) (by decide) (by decide) he hpl) fun σ H Q ⟨st, S, ρ, m, cv, er, o⟩ => ?_
  refine TE.bind (G := fun x _ => do need (x.plainOr oc); pure (.bl (cls.any (isCl x)))) cv er o fun v d m1 H1 c1 cv1 er1 r1 o1 => ?_
  obtain ⟨h, o2⟩ := out_need (P := fun r => Out X.K st S H1 r Q (WE W σ)) (fun z => z) o1
  refine ⟨by rw [sizeLine_eq]; omega, fun q hq => ?_⟩
  have r2 := r1.new (o := .tup vs) hq
  refine ⟨v, q, vs, _, _, _, rfl, upd_same, hv, rep_ty hc r2 h, kit_any hc h hl, ?_⟩
  exact o2 _ _ (Chg.new hq) (cv1.new hq) (.bl _)
end
end Den
set_option Elab.async false
set_option linter.all false
set_option maxRecDepth 100000
set_option maxHeartbeats 4000000
namespace Den
open PySem PySem.Spec PyProof.Rows L2
/-- the fields with f stored -/
def putD (f : Str) (d : D) : List (Str × D) → List (Str × D)
  | [] => [(f, d)]
  | (g, e) :: r => if g = f then (g, d) :: r else (g, e) :: putD f d r
theorem RepF.put {K : PySem.W.Frag} {st : Stx xi} {S : Addr → Prop} {H : Hp} {v : V} {d : D} {f : Str} (r : Rep K st S H v d) : ∀ {fv : List (Str × V)} {fs : List (Str × D)}, RepF K st S H fv fs → RepF K st S H (putF f v fv) (putD f d fs)
  | _, _, .nil => .cons r .nil
  | _, _, .cons (x := x) h t => by
    show RepF K st S H (if x = f then _ else _) (if x = f then _ else _)
    by_cases e : x = f
    · rw [if_pos e, if_pos e]
      exact .cons r t
    · rw [if_neg e, if_neg e]
      exact .cons h (RepF.put r t)
theorem RepF.length {K : PySem.W.Frag} {st : Stx xi} {S : Addr → Prop} {H : Hp} : ∀ {fv : List (Str × V)} {fs : List (Str × D)}, RepF K st S H fv fs → fv.length = fs.length
  | _, _, .nil => rfl
  | _, _, .cons _ t => by simp [RepF.length t]
section
variable {K : PySem.W.Frag} {st : Stx xi} {S : Addr → Prop} {H0 H : Hp} {σ : L2.St} {ρ : SV} {m : SM}
/-- the own instance in slot i gets another field -/
theorem EnvS.writeOb {i : Nat} {a dx : Addr} {c f : Str} {fs : List (Str × D)} {fv : List (Str × V)} {v : V} {d : D} (k : Kept K st S H0 H m) (e : EnvS K st S H0 H σ ρ) (h : ρ[i]? = some (.ob c fs)) (hs : σ[i]? = some (some (.ref a))) (ha : H a = some (.ins (He.ga K c) dx fv)) (rf : RepF K st (Av S ρ σ) H fv fs)
    (r : Rep K st (Av S ρ σ) H v d) : Kept K st S H0 (upd H a (.ins (He.ga K c) dx (putF f v fv))) m ∧ EnvS K st S H0 (upd H a (.ins (He.ga K c) dx (putF f v fv))) σ (ρ.set i (.ob c (putD f d fs))) ∧
      Pers K st S H σ ρ (upd H a (.ins (He.ga K c) dx (putF f v fv))) σ (ρ.set i (.ob c (putD f d fs))) := by
  have oi : OwnAt ρ σ i a := ⟨⟨_, h, rfl⟩, hs⟩
  have h0 : H0 a = none := (e.own oi).2
  have hl := (List.getElem?_eq_some_iff.mp h).1
  have same := own_same (σ := σ) (s' := .ob c (putD f d fs)) h rfl rfl
  have av : ∀ b, Av S (ρ.set i (.ob c (putD f d fs))) σ b → Av S ρ σ b := fun b z => z.imp id fun ⟨j, o⟩ => ⟨j, (same j b).mp o⟩
  have cw : Chg (fun b => b = a) H (upd H a (.ins (He.ga K c) dx (putF f v fv))) := Chg.write ha rfl rfl
  have sub : ∀ b, b = a → Av S ρ σ b := fun b z => .inr ⟨i, by rw [z]; exact oi⟩
  have nS : ¬ S a := k.not h0
  have low : ∀ {j : Nat} {s : Sl}, j ≠ i → (ρ.set i (.ob c (putD f d fs)))[j]? = some s → ρ[j]? = some s := fun {j s} h q => by rw [List.getElem?_set_ne (Ne.symm h)] at q; exact q
  have at_i : ∀ {s : Sl}, (ρ.set i (.ob c (putD f d fs)))[i]? = some s → s = .ob c (putD f d fs) := fun {s} q => by
    rw [List.getElem?_set_self hl] at q
    exact (Option.some.inj q).symm
  have ne : ∀ {j : Nat} {b : Addr}, j ≠ i → OwnAt ρ σ j b → b ≠ a := fun hj oj z => hj (e.dis _ _ a (by rw [← z]; exact oj) oi)
  refine ⟨⟨k.cov.keep cw fun b z => by rw [z]; exact nS, k.dom0, fun b u q => ?_⟩, ⟨fun j u q => ?_, fun j zs q => ?_, fun j cn gs q => ?_, fun j l b oj ol => e.dis j l b ((same j b).mp oj) ((same l b).mp ol), by simp [e.len]⟩, fun v d q => q.mono cw sub av, fun j cn gs q => ?_⟩
  · have nb : b ≠ a := fun z => by rw [z, h0] at q; cases q
    rw [upd_ne nb]
    exact k.chg b u q
  · by_cases hj : j = i
    · subst hj; cases at_i q
    · obtain ⟨v, g1, g2⟩ := e.va j u (low hj q)
      exact ⟨v, g1, g2.mono cw sub av⟩
  · by_cases hj : j = i
    · subst hj; cases at_i q
    · obtain ⟨b, us, g1, g2, g3, g4⟩ := e.ow j zs (low hj q)
      exact ⟨b, us, g1, by rw [upd_ne (ne hj ⟨⟨_, low hj q, rfl⟩, g1⟩)]; exact g2, g3, g4.mono cw sub av⟩
  · by_cases hj : j = i
    · subst hj
      cases at_i q
      exact ⟨a, dx, _, hs, upd_same, h0, (rf.put r).mono cw sub av⟩
    · obtain ⟨b, dy, gv, g1, g2, g3, g4⟩ := e.ob j cn gs (low hj q)
      exact ⟨b, dy, gv, g1, by rw [upd_ne (ne hj ⟨⟨_, low hj q, rfl⟩, g1⟩)]; exact g2, g3, g4.mono cw sub av⟩
  · by_cases hj : j = i
    · subst hj
      cases at_i q
      exact ⟨⟨fs, h⟩, rfl⟩
    · exact ⟨⟨gs, low hj q⟩, rfl⟩
end
section
variable {X : Cx} {W : WX} {pos : Pos} {s : Stmt}
/-- self.f = e, self in slot i -/
def gFldSet (i : Nat) (c f : Str) (F : EV → M D) : SV → M Fl := fun ρ => exB (F (vw [] ρ)) ρ fun d => match ρ[i]? with
  | some (.ob c' fs) => do
    need (decide (c' = c) && decide (fs.length < 1000))
    pure (.nx (ρ.set i (.ob c' (putD f d fs))))
  | _ => M.bad
theorem ss_fld {i : Nat} {c f : Str} {F : EV → M D} (C : Cls X.K (He.ga X.K c)) (n : NoAttr X.K (He.ga X.K c) f) (h : PS X s (sFld X.K (tVar i) (TE X.xi X.K W F) f)) : SS1 X W s (gFldSet i c f F) := by
  refine ⟨PS.imp h fun Dn σ H ⟨st, S, ρ, m, H0, k, e, o⟩ => ?_⟩
  refine TE.stm (mk := []) k e o fun v d m1 H1 c1 k1 cv1 e1 r1 o1 => ?_
  cases q : ρ[i]? with
  | none => rw [q] at o1; exact o1.elim
  | some sl =>
    rw [q] at o1
    cases sl with
    | ob c' fs =>
      obtain ⟨hf, o2⟩ := out_need (P := fun r => OutS X.K W st S H0 H1 σ ρ r Dn) (fun z => z) o1
      obtain ⟨hc, hz⟩ := Bool.and_eq_true_iff.mp hf
      have hc := of_decide_eq_true hc
      subst hc
      have hz := of_decide_eq_true hz
      obtain ⟨a, dx, fv, g1, g2, g3, g4⟩ := e1.ob i c' fs q
      have r2 : Rep X.K st (Av S ρ σ) H1 v d := r1.mono (B := noB) (Chg.refl H1) (fun _ z => z.elim) AvM.nil
      obtain ⟨k2, e2, p2⟩ := EnvS.writeOb (f := f) k1 e1 q g1 g2 g4 r2
      exact ⟨.ref a, g1, a, He.ga X.K c', dx, fv, rfl, g2, C, n, by rw [g4.length]; exact hz, o2 σ _ k2 e2 p2⟩
    | no => exact o1.elim
    | va d => exact o1.elim
    | ow xs => exact o1.elim
/-- what an __init__ promises: g tells the fields by the arguments behind self -/
def spIni (K : PySem.W.Frag) (c : Str) (g : List D → M (List (Str × D))) : Sp := fun vs H Q E => ∃ (st : Stx none) (S : Addr → Prop) (ds : List D) (m : SM) (H0 : Hp) (x dx : Addr) (us : List V), vs = .ref x :: us ∧ H0 x = none ∧ H0 dx = none ∧ dx ≠ x ∧ H = upd (upd H0 dx (.own x)) x (.ins (He.ga K c) dx []) ∧ Cov K st S H0 m ∧ RepL K st S H0 us ds ∧
  (match g ds m with
  | .ok fs m' => ∀ H' dy fv, Chg (atSt st) H0 H' → Cov K st S H' m' → H' x = some (.ins (He.ga K c) dy fv) → RepF K st S H' fv fs → Q .non H'
  | .err cn fs m' => ∀ dd fv H', Chg (atSt st) H0 H' → Cov K st S H' m' → H' dd = some (.xd fv) → H0 dd = none → RepF K st S H' fv fs → E (.ref (He.ga K cn)) (some dd) H'
  | .bad => False)
def runI (c : Str) (p n : Nat) (G : SV → M Fl) : List D → M (List (Str × D)) := fun ds m => if ds.length + 1 = p then (match G (.ob c [] :: (ds.map .va ++ List.replicate (n - p) .no)) m with
  | .ok (.nx (.ob _ fs :: _)) m' => .ok fs m'
  | .ok (.ex cn fs _) m' => .err cn fs m'
  | _ => .bad) else .bad
theorem fn_ini {P : Program} {w : World} {K : PySem.W.Frag} {mg : Str → Option Value} {base : Heap} {x qual c : Str} {params : Arguments} {body : List Stmt} {scope : Scope} {dvs : List V} {kws : List (Str × V)} {f : Addr} {fd : FuncData} {N ps : List Str} {k : Nat} {G : SV → M Fl}
    (F : FunD K x qual params body scope dvs kws f fd) (Sc : FnScope N ps scope)
    (hb : ∀ (cdv : Value) (A : Around) (outer : List Env) (s : Shared) (H : Hp) (E : XK), Room k (A.deeper (envOfC qual scope s.heap.objs.size f cdv)) → SS (cxOf (L2N.CX P w) P w K mg base N qual scope f cdv A outer s H E) (wE E) body G) :
    FnOk P w K mg base (L2N.CX P w) (k + 1) f fd ps (spIni K c (runI c ps.length N.length G)) := by
  refine F.ok Sc (fun vs H Q E ⟨st, S, ds, m, H0, x, dx, us, e1, n1, n2, ne, eH, cv, r, o⟩ => ?_) fun cdv A outer s H vs Q E hr ⟨st, S, ds, m, H0, x, dx, us, e1, n1, n2, ne, eH, cv, r, o⟩ => ⟨_, (by have z := (hb cdv A outer s H E hr).ps; rw [xi_room (X := cxOf (L2N.CX P w) P w K mg base N qual scope f cdv A outer s H E) hr] at z; exact z), ?_⟩
  · unfold runI at o
    by_cases h : ds.length + 1 = ps.length
    · rw [e1, List.length_cons, r.length, h]
    · rw [if_neg h] at o; exact o.elim
  · unfold runI at o
    by_cases h : ds.length + 1 = ps.length
    case neg => rw [if_neg h] at o; exact o.elim
    rw [if_pos h] at o
    have hl : vs.length = ps.length := by rw [e1, List.length_cons, r.length]; exact h
    subst e1
    have hx : H x = some (.ins (He.ga K c) dx []) := by rw [eH]; exact upd_same
    have c0 : Chg noB H0 H := by
      rw [eH]
      refine (Chg.new n2).trans (Chg.new ?_)
      rw [upd_ne (Ne.symm ne)]; exact n1
    have nSx : ¬ S x := cv.out n1
    have startEq : L2.start N (.ref x :: us) = some (.ref x) :: (us.map some ++ List.replicate (N.length - ps.length) none) := by
      unfold L2.start
      rw [hl]; rfl
    rw [startEq]
    generalize hρ : (Sl.ob c [] :: (ds.map .va ++ List.replicate (N.length - ps.length) .no)) = ρ0 at o
    have at0 : ρ0[0]? = some (.ob c []) := by rw [← hρ]; rfl
    have low : ∀ (i : Nat) (sl : Sl), ρ0[i]? = some sl → (i = 0 ∧ sl = .ob c []) ∨ (∃ j d, i = j + 1 ∧ ds[j]? = some d ∧ sl = .va d) ∨ sl = .no := fun i sl h1 => by
      rw [← hρ] at h1
      cases i with
      | zero => exact .inl ⟨rfl, (Option.some.inj h1).symm⟩
      | succ j =>
        rw [List.getElem?_cons_succ] at h1
        by_cases hi : j < ds.length
        · rw [List.getElem?_append_left (by simpa using hi), List.getElem?_map] at h1
          obtain ⟨d, h2, h3⟩ := Option.map_eq_some_iff.mp h1
          exact .inr (.inl ⟨j, d, rfl, h2, h3.symm⟩)
        · rw [List.getElem?_append_right (by simpa using hi)] at h1
          exact .inr (.inr (List.mem_replicate.mp (List.mem_of_getElem? h1)).2)
    have onlyX : ∀ i a, OwnAt ρ0 (some (.ref x) :: (us.map some ++ List.replicate (N.length - ps.length) none)) i a → i = 0 ∧ a = x := fun i a ⟨⟨s, h1, h2⟩, h3⟩ => by
      rcases low i s h1 with ⟨hi, _⟩ | ⟨j, d, _, _, e⟩ | e
      · subst hi
        refine ⟨rfl, ?_⟩
        have : (some (V.ref x)) = some (V.ref a) := Option.some.inj h3
        cases this; rfl
      · rw [e] at h2; cases h2
      · rw [e] at h2; cases h2
    have avN : ∀ a, Av S ρ0 (some (.ref x) :: (us.map some ++ List.replicate (N.length - ps.length) none)) a → S a ∨ H0 a = none := fun a z => z.imp id fun ⟨i, oi⟩ => by rw [(onlyX i a oi).2]; exact n1
    have kk : Kept K st S H0 H m := ⟨cv.keep c0 fun _ z => z.elim, cv.dom, c0.mono fun _ z => z.elim⟩
    have ee : EnvS K st S H0 H (some (.ref x) :: (us.map some ++ List.replicate (N.length - ps.length) none)) ρ0 := by
      refine ⟨fun i d h1 => ?_, fun i xs h1 => ?_, fun i c' fs h1 => ?_, fun i j a oi oj => (onlyX i a oi).1.trans (onlyX j a oj).1.symm, ?_⟩
      · rcases low i _ h1 with ⟨_, e⟩ | ⟨j, d', hi, h2, h3⟩ | e
        · cases e
        · cases h3
          subst hi
          obtain ⟨v, g1, g2⟩ := r.get h2
          refine ⟨v, ?_, (g2.wide avN).mono c0 (fun _ z => z.elim) fun _ z => z⟩
          rw [List.getElem?_cons_succ, List.getElem?_append_left (by simpa using (List.getElem?_eq_some_iff.mp g1).1), List.getElem?_map, g1]; rfl
        · cases e
      · rcases low i _ h1 with ⟨_, e⟩ | ⟨j, d', hi, h2, h3⟩ | e
        · cases e
        · cases h3
        · cases e
      · rcases low i _ h1 with ⟨hi, e⟩ | ⟨j, d', hi, h2, h3⟩ | e
        · cases e
          subst hi
          exact ⟨x, dx, [], rfl, hx, n1, .nil⟩
        · cases h3
        · cases e
      · rw [← hρ]
        simp [r.length]
    refine ⟨st, S, ρ0, m, H0, kk, ee, ?_⟩
    cases q : G ρ0 m with
    | bad => rw [q] at o; exact o.elim
    | err cn fs m1 => rw [q] at o; exact o.elim
    | ok f m1 =>
      rw [q] at o
      cases f with
      | nx ρ1 =>
        intro σ1 H1 k1 e1 p1
        cases ρ1 with
        | nil => exact o.elim
        | cons s0 ρ2 =>
          cases s0 with
          | ob c' fs =>
            obtain ⟨⟨gs, h1⟩, h2⟩ := p1.obs 0 c' fs rfl
            rw [at0] at h1
            cases h1
            obtain ⟨a, dy, fv, g1, g2, g3, g4⟩ := e1.ob 0 c fs rfl
            rw [g1] at h2
            have ea : some (V.ref a) = some (V.ref x) := Option.some.inj h2
            cases ea
            exact o H1 dy fv k1.chg k1.cov g2 (g4.mono (B := noB) (Chg.refl H1) (fun _ z => z.elim) fun _ z => .inl z)
          | no => exact o.elim
          | va d => exact o.elim
          | ow xs => exact o.elim
      | rt d => exact o.elim
      | rf d => exact o.elim
      | ex cn fs ρ1 => exact fun dd fv σ1 H1 k1 e1 h1 h2 r1 => o dd fv H1 k1.chg k1.cov h1 h2 r1
      | bk ρ1 => exact o.elim
      | ct ρ1 => exact o.elim
end
end Den
set_option Elab.async false
set_option linter.all false
set_option maxRecDepth 100000
set_option maxHeartbeats 4000000
namespace Den
open PySem PySem.Spec PyProof.Rows L2
structure SK (X : Cx) (W : WX) (kws : List Keyword) (A : EV → M (List D)) : Prop where
  pk : PK X kws (TAD X.xi X.K W A)
theorem PK.imp {X : Cx} {es : List Keyword} {t t' : L2.TA} (h : PK X es t) (i : ∀ σ H Q, t' σ H Q → t σ H Q) : PK X es t' := ⟨fun pos pins s σ H Q I q => h.run pos pins s σ H Q I (i σ H Q q)⟩
section
variable {X : Cx} {W : WX} {pos kpos : Pos} {nm : Option Str}
theorem sk_nil : SK X W [] (fun _ => pure []) := ⟨PK.imp pk_nil fun σ H Q ⟨st, S, ρ, m, cv, er, o⟩ => o [] H (Chg.refl H) cv .nil⟩
theorem cons_imp {K : PySem.W.Frag} {F : EV → M D} {A : EV → M (List D)} {σ : L2.St} {H : Hp} {Q : List V → Hp → Prop} (h : TAD xi K W (fun ρ => do let d ← F ρ; let ds ← A ρ; pure (d :: ds)) σ H Q) : tCons (TE xi K W F) (TAD xi K W A) σ H Q := by
  obtain ⟨st, S, ρ, m, cv, er, o⟩ := h
  refine TE.bindL (G := fun d ρ => do let ds ← A ρ; pure (d :: ds)) cv er o fun v d m1 H1 c1 cv1 er1 r1 o1 => ?_
  refine ⟨st, S, ρ, m1, cv1, er1, ?_⟩
  rw [bind_run] at o1
  cases e1 : A ρ m1 with
  | ok ds m2 =>
    rw [e1] at o1
    exact fun vs H2 c2 cv2 r2 => o1 _ H2 c2 cv2 (.cons (r1.mono c2 cv1.sub fun _ z => z) r2)
  | err c fs m2 =>
    rw [e1] at o1
    exact o1
  | bad => rw [e1] at o1; exact o1.elim
theorem sk_cons {e : Expr} {kws : List Keyword} {F : EV → M D} {A : EV → M (List D)} (ha : SE X W e F) (hr : SK X W kws A) : SK X W (⟨nm, e, kpos⟩ :: kws) (fun ρ => do let d ← F ρ; let ds ← A ρ; pure (d :: ds)) :=
  ⟨PK.imp (pk_cons ha.pe hr.pk) fun σ H Q h => cons_imp h⟩
/-- the things at these places -/
def pick {α : Type} (p : List Nat) (l : List α) : List α := p.filterMap fun i => l[i]?
theorem RepL.pick {K : PySem.W.Frag} {st : Stx xi} {S : Addr → Prop} {H : Hp} {vs : List V} {ds : List D} (r : RepL K st S H vs ds) : ∀ p : List Nat, RepL K st S H (Den.pick p vs) (Den.pick p ds)
  | [] => .nil
  | i :: p => by
    have ih := RepL.pick r p
    unfold Den.pick at ih ⊢
    rw [List.filterMap_cons, List.filterMap_cons]
    cases e : ds[i]? with
    | none =>
      have : vs[i]? = none := by
        rw [List.getElem?_eq_none_iff] at e ⊢
        rw [r.length]; exact e
      rw [this]; exact ih
    | some d =>
      obtain ⟨v, h1, h2⟩ := r.get e
      rw [h1]
      exact .cons h2 ih
theorem vals_pick {vs : List V} {us : List Value} (r : Vals vs us) : ∀ p : List Nat, Vals (pick p vs) (pick p us)
  | [] => .nil
  | i :: p => by
    have ih := vals_pick r p
    unfold pick at ih ⊢
    rw [List.filterMap_cons, List.filterMap_cons]
    cases e : vs[i]? with
    | none =>
      rw [r.none_of e]; exact ih
    | some d =>
      obtain ⟨u, h1, h2⟩ := r.get e
      rw [h1]
      exact .cons h2 ih
/-- constants as things -/
inductive CV : V → D → Prop where
  | non : CV .non .non
  | bl (b : Bool) : CV (.bl b) (.bl b)
  | int (i : Int) : CV (.int i) (.int i)
theorem CV.rep {K : PySem.W.Frag} {st : Stx xi} {S : Addr → Prop} {H : Hp} {v : V} {d : D} (c : CV v d) : Rep K st S H v d := by
  cases c with
  | non => exact .non
  | bl b => exact .bl b
  | int i => exact .int i
theorem cvs_rep {K : PySem.W.Frag} {st : Stx xi} {S : Addr → Prop} {H : Hp} : ∀ {vs : List V} {ds : List D}, Paired CV vs ds → RepL K st S H vs ds
  | _, _, .nil => .nil
  | _, _, .cons c t => .cons c.rep (cvs_rep t)
structure KB (K : PySem.W.Frag) (fd : FuncData) (ps : List Str) (n : Nat) (ks : List Str) (p : List Nat) (cs : List V) : Prop where
  ex : ∃ us0 : List Value, KBn K fd ps n ks (fun us ws => pick p (us ++ (ws ++ us0))) (fun vs zs => pick p (vs ++ (zs ++ cs)))
section
variable {K : PySem.W.Frag} {x qual : Str} {params : Arguments} {body : List Stmt} {scope : Scope} {kws : List (Str × V)} {f : Addr} {fd : FuncData} {ps : List Str}
/-- no defaults -/
theorem kb_plain (F : FunD K x qual params body scope [] kws f fd) (n : Nat) (ks : List Str) (p : List Nat)
    (h : ∀ (kV doc pm : Value) (an : Option Addr) (cdv ct : Value) (us ws : List Value), us.length = n → ws.length = ks.length → bindArgs (PySem.W.fnOf x qual params body scope .none kV doc pm an cdv ct) ⟨us, ks.zip ws⟩ = pure (ps.zip (pick p (us ++ (ws ++ []))))) : KB K fd ps n ks p [] := by
  obtain ⟨oc, od, dV, kV, doc, pm, an, cdv, ct, osl, rfl, lk, hcd, hD, hK⟩ := F.ex
  rcases hD with ⟨_, rfl⟩ | ⟨e, _⟩
  · exact ⟨[], ⟨fun s us ws _ l1 l2 => .of_eq (h kV doc pm an cdv ct us ws l1 l2), fun r1 r2 => vals_pick (r1.append (r2.append .nil)) p⟩⟩
  · exact absurd rfl e
/-- keyword-only defaults, of which ms lack -/
theorem kb_kwo (F : FunD K x qual params body scope [] kws f fd) (n : Nat) (ks : List Str) (ms : List (Str × V)) (p : List Nat) (hk : kws ≠ []) (hms : ∀ q ∈ ms, q ∈ kws)
    (h : ∀ (D : Addr) (doc pm : Value) (an : Option Addr) (cdv ct : Value) (us mv ws : List Value), us.length = n → mv.length = ms.length → ws.length = ks.length →
      KwChain D ((ms.map (·.1)).zip mv) (bindArgs (PySem.W.fnOf x qual params body scope .none (.ref D) doc pm an cdv ct) ⟨us, ks.zip ws⟩) (ps.zip (pick p (us ++ (ws ++ mv))))) : KB K fd ps n ks p (ms.map (·.2)) := by
  obtain ⟨mv, q⟩ := F.kbinds0 (ps := ps) n ks ms (fun {α} (us mv ws : List α) => pick p (us ++ (ws ++ mv))) hk hms (fun r1 r2 r3 => vals_pick (r1.append (r3.append r2)) p) h
  exact ⟨mv, q⟩
end
section
variable {es : List Expr} {e : Expr} {kws : List Keyword} {A Ak : EV → M (List D)} {x : Str} {p : Pos} {k n : Nat} {fa : Addr} {fd : FuncData} {ps ks : List Str} {pl : List Nat} {cs : List V} {cd : List D}
/-- the values of the arguments and of the keywords -/
def gArgs (A Ak : EV → M (List D)) (n m : Nat) : EV → M (List D × List D) := fun ρ => do
  let ds ← A ρ
  let es ← Ak ρ
  need (decide (ds.length = n) && decide (es.length = m))
  pure (ds, es)
theorem TAD.bind2 {K : PySem.W.Frag} {G : List D → List D → M D} {m : Nat} {σ : L2.St} {H : Hp} {Q : VK} {R : List V → List V → Hp → Prop} {st : Stx xi} {S : Addr → Prop} {ρ : EV} {mm : SM}
    (cv : Cov K st S H mm) (er : EnvR K st S H σ ρ) (o : Out K st S H ((gArgs A Ak n m ρ >>= fun z => G z.1 z.2) mm) Q (WE W σ))
    (kk : ∀ vs ds zs es m1 H1, Chg (atSt st) H H1 → Cov K st S H1 m1 → RepL K st S H1 vs ds → RepL K st S H1 zs es → vs.length = n → zs.length = m → Out K st S H1 (G ds es m1) Q (WE W σ) → R vs zs H1) : TAD xi K W A σ H fun vs H1 => TAD xi K W Ak σ H1 fun zs H2 => R vs zs H2 := by
  unfold gArgs at o
  simp only [bind_assoc] at o
  refine TAD.bind (G := fun ds ρ => Ak ρ >>= fun es => need (decide (ds.length = n) && decide (es.length = m)) >>= fun _ => pure (ds, es) >>= fun z => G z.1 z.2) cv er o fun vs ds m1 H1 c1 cv1 er1 r1 o1 => ?_
  refine TAD.bind (G := fun es ρ => need (decide (ds.length = n) && decide (es.length = m)) >>= fun _ => pure (ds, es) >>= fun z => G z.1 z.2) cv1 er1 o1 fun zs es m2 H2 c2 cv2 er2 r2 o2 => ?_
  obtain ⟨hn, o3⟩ := out_need (P := fun r => Out K st S H2 r Q (WE W σ)) (fun z => z) o2
  obtain ⟨h1, h2⟩ := Bool.and_eq_true_iff.mp hn
  have h1 := of_decide_eq_true h1
  have h2 := of_decide_eq_true h2
  exact kk vs ds zs es m2 H2 (c1.trans c2) cv2 (r1.mono c2 cv1.sub fun _ z => z) r2 (r1.length.trans h1) (r2.length.trans h2) o3
def gCallK (g : List D → M D) (A Ak : EV → M (List D)) (n m : Nat) (pl : List Nat) (cd : List D) : EV → M D := fun ρ => gArgs A Ak n m ρ >>= fun z => g (pick pl (z.1 ++ (z.2 ++ cd)))
/-- C(e, .., k = v, ..) -/
theorem se_make {c : Str} {g : List D → M (List (Str × D))} (Mk' : Mk X.K (He.ga X.K c) fa) (Fn : FnOk X.prog X.w X.K X.mg X.base (L2N.CX X.prog X.w) k fa fd ps (spIni X.K c g)) (hr : Room (k + 1) X.A) (hg : Gl X x) (hm : X.mg x = some (.ref (He.ga X.K c)))
    (hb : KB X.K fd ps (n + 1) ks (0 :: pl.map (· + 1)) cs) (hcs : Paired CV cs cd) (ha : SA X W (e :: es) A) (hkw : SK X W kws Ak)
    (hall : (backToKw pos (keywordEach kws X.env)).all (·.1.isSome) = true := by rfl) (hks : (backToKw pos (keywordEach kws X.env)).filterMap (·.1) = ks := by rfl) (hdb : (x == ("__debug__" : Str)) = false := by decide)
    (he : starEach (e :: es) X.env = (false, eval e X.env) :: starEach es X.env := by rfl) (hpl : ((backTo pos (starEach (e :: es) X.env)).any (·.1) || (backToKw pos (keywordEach kws X.env)).any (·.1.isNone)) = false := by rfl) :
    SE X W (.Call (.Name x p) (e :: es) kws pos) (gCallK (fun ds => noErr (do let fs ← g ds; pure (.obj c fs))) A Ak n ks.length pl cd) := by
  obtain ⟨us0, hb'⟩ := hb.ex
  refine .imp (pe_makeK Mk' Fn hr hg hm hb' (passL (X := X)) ha.pa hkw.pk hall hks hdb he hpl) fun σ H Q h => ?_
  rw [xi_room hr] at h ⊢
  obtain ⟨st, S, ρ, m, cv, er, o⟩ := h
  refine TAD.bind2 (G := fun ds es => noErr (do let fs ← g (pick pl (ds ++ (es ++ cd))); pure (.obj c fs))) cv er o fun vs ds zs es' m1 H1 c1 cv1 r1 r2 l1 l2 o1 => ⟨l1, l2, fun y dx n1 n2 ne => ?_⟩
  have ep : pick (0 :: pl.map (· + 1)) (V.ref y :: vs ++ (zs ++ cs)) = V.ref y :: pick pl (vs ++ (zs ++ cs)) := by
    unfold pick
    simp [List.filterMap_map, Function.comp_def]
  refine ⟨st, S, pick pl (ds ++ (es' ++ cd)), m1, H1, y, dx, pick pl (vs ++ (zs ++ cs)), ep, n1, n2, ne, rfl, cv1, (r1.append (r2.append (cvs_rep hcs))).pick pl, ?_⟩
  rcases noErr_cases (g (pick pl (ds ++ (es' ++ cd))) >>= fun fs => pure (D.obj c fs)) m1 with ⟨d, m2, h1, h2⟩ | h2
  · rw [h2] at o1
    rw [bind_run] at h1
    cases q : g (pick pl (ds ++ (es' ++ cd))) m1 with
    | bad => rw [q] at h1; cases h1
    | err cn fs m3 => rw [q] at h1; cases h1
    | ok fs m3 =>
      rw [q] at h1
      cases h1
      intro H' dy fv c' cv' hy rf
      exact ⟨rfl, o1 _ H' c' cv' (.obj (cv1.out n1) hy rf)⟩
  · rw [h2] at o1; exact o1.elim
/-- f(k = v, ..), f(e, .., k = v, ..): as a wish that hangs on the slots -/
theorem run_kb {g : List D → M D} {pins : List (Addr × Obj)} {σ : L2.St} {H : Hp} {s : Shared} {Q : VK} {us ws : List Value} {vs zs : List V} (tk : Takes X W) (Fn : FnOk X.prog X.w X.K X.mg X.base (L2N.CX X.prog X.w) k fa fd ps (spOf X.K g)) (hr : Room k X.A) (hb : KB X.K fd ps n ks pl cs)
    (I : Inv X pins σ H s) (r : Vals vs us) (rz : Vals zs ws) (l1 : vs.length = n) (l2 : zs.length = ks.length) (h : spOf X.K g (pick pl (vs ++ (zs ++ cs))) H Q (WE W σ)) : wpAny (model X.prog X.w) X.A (call (.ref fa) us (ks.zip ws)) (EP X pins σ Q) X.xe s := by
  obtain ⟨us0, q⟩ := hb.ex
  have l1' : us.length = n := by rw [← l1, r.length]
  have l2' : ws.length = ks.length := by rw [← l2, rz.length]
  have run := Fn.run X.A X.stack s H ⟨us, ks.zip ws⟩ _ _ Q (WE W σ) hr I.env0 (q.to s us ws I.kIn l1' l2') (q.rel r rz) h
  refine wpAny_call (codeAny_mono run fun res s' z => ?_)
  match res, z with
  | .error ev, z => exact passAt tk σ pins H s ev s' I z
  | .ok (.ret u), z => exact I.after z
  | .ok .next, z => exact z.elim
  | .ok .brk, z => exact z.elim
  | .ok .cont, z => exact z.elim
theorem se_callK {g : List D → M D} (tk : Takes X W) (Fn : FnOk X.prog X.w X.K X.mg X.base (L2N.CX X.prog X.w) k fa fd ps (spOf X.K g)) (hr : Room k X.A) (hg : Gl X x) (hm : X.mg x = some (.ref fa)) (hk : PySem.W.keepIn X.K (.ref fa) = true) (hb : KB X.K fd ps n ks pl cs) (hcs : Paired CV cs cd)
    (ha : SA X W (e :: es) A) (hkw : SK X W kws Ak) (hall : (backToKw pos (keywordEach kws X.env)).all (·.1.isSome) = true := by rfl) (hks : (backToKw pos (keywordEach kws X.env)).filterMap (·.1) = ks := by rfl) (hdb : (x == ("__debug__" : Str)) = false := by decide)
    (he : starEach (e :: es) X.env = (false, eval e X.env) :: starEach es X.env := by rfl) (hpl : ((backTo pos (starEach (e :: es) X.env)).any (·.1) || (backToKw pos (keywordEach kws X.env)).any (·.1.isNone)) = false := by rfl) :
    SE X W (.Call (.Name x p) (e :: es) kws pos) (gCallK g A Ak n ks.length pl cd) := by
  refine ⟨⟨fun pins s σ H Q I h0 => ?_⟩⟩
  have hap := ha.pa
  have hkp := hkw.pk
  rw [xi_room hr] at h0 hap hkp
  obtain ⟨st, S, ρ, m, cv, er, o⟩ := h0
  have key := TAD.bind2 (R := fun vs zs H2 => vs.length = n ∧ zs.length = ks.length ∧ spOf X.K g (pick pl (vs ++ (zs ++ cs))) H2 Q (WE W σ)) (G := fun ds es => g (pick pl (ds ++ (es ++ cd)))) cv er o fun vs ds zs es' m1 H1 c1 cv1 r1 r2 l1 l2 o1 =>
    ⟨l1, l2, st, S, _, m1, cv1, (r1.append (r2.append (cvs_rep hcs))).pick pl, o1⟩
  refine wpAny_Call_Name_kw (ld_glob I hg hm (PySem.W.callWith_KW (h₀ := X.base) I.ok.mod.kin hk hall (thn (hap.run pos pins s σ H _ I key) fun us s1 ⟨vs, H1, I1, rv, q⟩ => ?_) hpl he) hdb)
  refine thn (hkp.run pos pins s1 σ H1 _ I1 q) fun ws s2 ⟨zs, H2, I2, rz, l1, l2, q2⟩ => ⟨I2.kIn, ?_⟩
  rw [hks]
  exact run_kb tk Fn hr hb I2 rv rz l1 l2 q2
end
end
end Den
set_option Elab.async false
set_option linter.all false
set_option maxRecDepth 100000
set_option maxHeartbeats 4000000
namespace Den
open PySem PySem.Spec PyProof.Rows L2
def OutO (K : PySem.W.Frag) (st : Stx xi) (S : Addr → Prop) (H : Hp) (r : R (Option Int)) (Q : Option Int → Hp → Prop) (E : XK) : Prop := match r with
  | .ok b m' => ∀ H', Chg (atSt st) H H' → Cov K st S H' m' → Q b H'
  | .err c fs m' => ∀ dd fv H', Chg (atSt st) H H' → Cov K st S H' m' → H' dd = some (.xd fv) → H dd = none → RepF K st S H' fv fs → E (.ref (He.ga K c)) (some dd) H'
  | .bad => False
def TOD (xi : XI) (K : PySem.W.Frag) (W : WX) (P : EV → M (Option Int)) : TO := fun σ H Q => ∃ (st : Stx xi) (S : Addr → Prop) (ρ : EV) (m : SM), Cov K st S H m ∧ EnvR K st S H σ ρ ∧ OutO K st S H (P ρ m) Q (WE W σ)
structure SO (X : Cx) (W : WX) (e : Option Expr) (P : EV → M (Option Int)) : Prop where
  po : PO X e (TOD X.xi X.K W P)
theorem PO.imp {X : Cx} {e : Option Expr} {t t' : TO} (h : PO X e t) (i : ∀ σ H Q, t' σ H Q → t σ H Q) : PO X e t' := ⟨fun pins s σ H Q I q => h.run pins s σ H Q I (i σ H Q q)⟩
def asI : D → M (Option Int)
  | .int i => pure (some i)
  | _ => M.bad
section
variable {X : Cx} {W : WX} {pos p2 : Pos}
theorem so_none : SO X W none (fun _ => pure none) := ⟨PO.imp po_none fun σ H Q ⟨st, S, ρ, m, cv, er, o⟩ => o H (Chg.refl H) cv⟩
theorem so_some {e : Expr} {F : EV → M D} (h : SE X W e F) : SO X W (some e) (fun ρ => do let x ← F ρ; asI x) := by
  refine ⟨PO.imp (po_some h.pe) fun σ H Q ⟨st, S, ρ, m, cv, er, o⟩ => ?_⟩
  replace o : OutO X.K st S H ((F ρ >>= fun x => asI x) m) Q (WE W σ) := o
  refine ⟨st, S, ρ, m, cv, er, ?_⟩
  rw [bind_run] at o
  cases q : F ρ m with
  | bad => rw [q] at o; exact o.elim
  | err c fs m1 => rw [q] at o; exact o
  | ok d m1 =>
    rw [q] at o
    intro v H1 c1 cv1 r1
    cases r1 with
    | int i => exact ⟨i, rfl, o H1 c1 cv1⟩
    | _ => exact o.elim
def cutD {α : Type} (xs : List α) (lo hi : Option Int) : List α := (xs.drop (HT.sIx xs.length 0 lo)).take (HT.sIx xs.length xs.length hi - HT.sIx xs.length 0 lo)
theorem rep_cut {K : PySem.W.Frag} {st : Stx xi} {S : Addr → Prop} {H : Hp} {vs : List V} {ds : List D} (r : RepL K st S H vs ds) (lo hi : Option Int) : RepL K st S H (cutV vs lo hi) (cutD ds lo hi) := by
  unfold cutV cutD
  rw [r.length]
  exact (r.drop _).take _
def dCut : D → Option Int → Option Int → M (List D)
  | .lst xs, lo, hi => pure (cutD xs lo hi)
  | .scr ns, lo, hi => pure ((cutD ns lo hi).map .int)
  | _, _, _ => M.bad
def gSlice (F : EV → M D) (P P' : EV → M (Option Int)) : EV → M (List D) := fun ρ => do let x ← F ρ; let lo ← P ρ; let hi ← P' ρ; dCut x lo hi
theorem cut_map (ns : List Int) (lo hi : Option Int) : cutV (ns.map V.int) lo hi = (cutD ns lo hi).map V.int := by
  unfold cutV cutD
  rw [List.length_map, List.map_take, List.map_drop]
theorem repL_ints {K : PySem.W.Frag} {st : Stx xi} {S : Addr → Prop} {H : Hp} : ∀ ns : List Int, RepL K st S H (ns.map V.int) (ns.map D.int)
  | [] => .nil
  | n :: ns => .cons (.int n) (repL_ints ns)
theorem TO.bindF {K : PySem.W.Frag} {P : EV → M (Option Int)} {G : Option Int → EV → M (List D)} {σ : L2.St} {H : Hp} {Q : VK} {R : Option Int → Hp → Prop} {st : Stx xi} {S : Addr → Prop} {ρ : EV} {m : SM}
    (cv : Cov K st S H m) (er : EnvR K st S H σ ρ) (o : OutF K st S H ((P ρ >>= fun d => G d ρ) m) Q (WE W σ))
    (k : ∀ b m1 H1, Chg (atSt st) H H1 → Cov K st S H1 m1 → EnvR K st S H1 σ ρ → OutF K st S H1 (G b ρ m1) Q (WE W σ) → R b H1) : TOD xi K W P σ H R := by
  refine ⟨st, S, ρ, m, cv, er, ?_⟩
  rw [bind_run] at o
  cases e : P ρ m with
  | ok b m1 =>
    rw [e] at o
    exact fun H1 c cv1 => k b m1 H1 c cv1 (er.mono c cv.sub) (OutF.chg o c)
  | err c fs m1 => rw [e] at o; exact o
  | bad => rw [e] at o; exact o.elim
theorem sf_slice {e : Expr} {lo hi : Option Expr} {F : EV → M D} {P P' : EV → M (Option Int)} (h : SE X W e F) (hl : SO X W lo P) (hh : SO X W hi P') : SF X W (.Subscript e (.Slice lo hi none p2) pos) (gSlice F P P') := by
  refine .imp (pe_slice sl_list h.pe hl.po hh.po) fun σ H Q ⟨st, S, ρ, m, cv, er, o⟩ => ?_
  refine TE.bindF (G := fun x ρ => do let lo ← P ρ; let hi ← P' ρ; dCut x lo hi) cv er o fun v d m1 H1 c1 cv1 er1 r1 o1 => ?_
  refine TO.bindF (G := fun lo ρ => do let hi ← P' ρ; dCut d lo hi) cv1 er1 o1 fun l m2 H2 c2 cv2 er2 o2 => ?_
  refine TO.bindF (G := fun hi _ => dCut d l hi) cv2 er2 o2 fun u m3 H3 c3 cv3 er3 o3 => ?_
  have r3 := (r1.mono c2 cv1.sub fun _ z => z).mono c3 cv2.sub fun _ z => z
  cases r3 with
  | lst na ha rr => exact ⟨_, _, rfl, SqL.of ha, out_new cv3 o3 (rep_cut rr l u)⟩
  | scr hs =>
    refine ⟨_, _, rfl, hs.sq, ?_⟩
    rw [cut_map]
    exact out_new cv3 o3 (repL_ints _)
  | _ => exact o3.elim
def D.ints : List D → Option (List Int)
  | [] => some []
  | .int n :: ds => (D.ints ds).map (n :: ·)
  | _ => none
theorem rep_ints {K : PySem.W.Frag} {st : Stx xi} {S : Addr → Prop} {H : Hp} : ∀ {vs : List V} {ds : List D} {ns : List Int}, RepL K st S H vs ds → D.ints ds = some ns → vs = ns.map V.int
  | _, _, _, .nil, h => by cases h; rfl
  | _, _, ns, .cons (d := d) r t, h => by
    cases d <;> try (cases h; done)
    obtain ⟨cs, h1, h2⟩ := Option.map_eq_some_iff.mp (show (D.ints _).map _ = some ns from h)
    subst h2
    cases r
    rw [rep_ints t h1]; rfl
end
end Den
set_option Elab.async false
set_option linter.all false
set_option maxRecDepth 100000
set_option maxHeartbeats 4000000
namespace Den
open PySem PySem.Spec PyProof.Rows L2 RZ
def enumD (xs : List D) : List D := xs.zipIdx.map fun p => .tup [.int (p.2 : Nat), p.1]
theorem enumD_length (xs : List D) : (enumD xs).length = xs.length := by simp [enumD]
theorem enumD_get {xs : List D} {i : Nat} {d : D} (h : xs[i]? = some d) : (enumD xs)[i]? = some (.tup [.int (i : Nat), d]) := by
  simp [enumD, List.getElem?_zipIdx, h]
section
variable {K : PySem.W.Frag} {st : Stx xi}
theorem pair_new {S : Addr → Prop} {H : Hp} {T : Addr} {x y : V} {d e : D} (n : H T = none) (rx : Rep K st S H x d) (ry : Rep K st S H y e) :
    RepW true K st S (upd H T (.tup [x, y])) (.ref T) (.tup [d, e]) :=
  ⟨T, x, y, d, e, rfl, rfl, .inl (.inl upd_same), rx.mono (B := noB) (Chg.new n) (fun _ z => z.elim) fun _ z => z, ry.mono (B := noB) (Chg.new n) (fun _ z => z.elim) fun _ z => z⟩
theorem walkD_enum {a : Addr} {ds : List D} : WalkD true K st (Ite K a) (enumD ds) [.ref a] [.lst ds] where
  goes := fun S H i hi r => by
    obtain ⟨v, e, rv⟩ := repL1 r
    cases e
    cases rv with
    | lst hn hs rr =>
      rw [enumD_length] at hi
      obtain ⟨v, h1, h2⟩ := rr.get (i := i) (d := ds[i]) (by simp [hi])
      exact ⟨_, v, SqL.of hs, h1⟩
  stops := fun S H r => by
    obtain ⟨v, e, rv⟩ := repL1 r
    cases e
    cases rv with
    | lst hn hs rr => exact ⟨_, SqL.of hs, by rw [rr.length, enumD_length]; exact Nat.le_refl _⟩
  yields := fun S H i x H' hi r y => by
    obtain ⟨v, e, rv⟩ := repL1 r
    cases e
    cases rv with
    | lst hn hs rr =>
      obtain ⟨T, u, e1, e2, e3, e4⟩ := y
      subst e1 e3
      obtain ⟨d, h1, h2⟩ := rr.getV (e4 _ (SqL.of hs))
      exact ⟨_, enumD_get h1, Chg.new e2, pair_new e2 (.int _) h2⟩
end
section
variable {X : Cx} {W : WX} {pos p : Pos}
def dEnum : List D → M (List D)
  | [.lst xs] => pure (enumD xs)
  | _ => M.bad
theorem dEnum_or (ds : List D) : (∃ xs, ds = [.lst xs] ∧ dEnum ds = pure (enumD xs)) ∨ dEnum ds = M.bad := by
  match ds with
  | [] => exact .inr rfl
  | [d] => cases d <;> first | exact .inl ⟨_, rfl, rfl⟩ | exact .inr rfl
  | d :: _ :: _ => cases d <;> exact .inr rfl
theorem si_enum {e : Expr} {elts : List Expr} {kk : Nat} {tpos : Pos} {A : EV → M (List D)} (hg : Gl X "enumerate") (hm : X.mg "enumerate" = none) (ha : SA X W [e] A) (hs : starEach [e] X.env = [(false, eval e X.env)] := by rfl) :
    SI true X W (.Tuple elts kk tpos) (.Call (.Name "enumerate" p) [e] [] pos) (fun ρ => do let ds ← A ρ; dEnum ds) := by
  refine ⟨PI.imp (pi_enum hg hm ha.pa hs) fun σ H Q ⟨st, S, ρ, m, cv, er, o⟩ => ?_⟩
  refine TAD.bindI (G := dEnum) cv er o fun vs ds m1 H1 c1 cv1 er1 r1 o1 => ?_
  rcases dEnum_or ds with ⟨xs, e1, e2⟩ | e2
  · rw [e2] at o1
    subst e1
    obtain ⟨v, ev, rv⟩ := repL1 r1
    subst ev
    have r0 := rv
    cases rv with
    | lst hn hs rr => exact ⟨_, _, rfl, SqL.of hs, o1 _ _ _ H1 (Chg.refl _) cv1 (.cons r0 .nil) walkD_enum⟩
  · rw [e2] at o1; exact o1.elim
end
end Den
set_option Elab.async false
set_option linter.all false
set_option maxRecDepth 100000
set_option maxHeartbeats 4000000
namespace Den
open PySem PySem.Spec PyProof.Rows L2
section
variable {X : Cx} {W : WX} {s : Stmt}
/-- store[k] = e -/
def setSt (d j : D) (ρ : SV) : M Fl := match d, j with
  | .int z, .int k => fun m => match ixN (m.xs.length + 1) k with
    | some (n + 1) => .ok (.nx ρ) ⟨m.cs, m.xs.set n z⟩
    | _ => .bad
  | _, _ => M.bad
def isSto (i : Nat) (ρ : SV) : Bool := match ρ[i]? with
  | some (.va .sto) => true
  | _ => false
def gSetS (i : Nat) (F Gj : EV → M D) : SV → M Fl := fun ρ => exB (F (vw [] ρ)) ρ fun d => exB (Gj (vw [] ρ)) ρ fun j => if isSto i ρ = true then setSt d j ρ else M.bad
theorem isSto_of {i : Nat} {ρ : SV} (h : isSto i ρ = true) : ρ[i]? = some (.va .sto) := by
  unfold isSto at h
  cases e : ρ[i]? with
  | none => rw [e] at h; cases h
  | some sl =>
    rw [e] at h
    cases sl with
    | va d => cases d <;> first | rfl | cases h
    | _ => cases h
theorem EnvS.sto {K : PySem.W.Frag} {st : Stx xi} {S : Addr → Prop} {H0 H : Hp} {σ : L2.St} {ρ : SV} {i : Nat} {m : SM} (k : Kept K st S H0 H m) (e : EnvS K st S H0 H σ ρ) (h : isSto i ρ = true) :
    ∃ a c, st.s = some (a, c) ∧ σ[i]? = some (some (.ref a)) ∧ StoAt K S H a c m := by
  obtain ⟨v, g1, g2⟩ := e.va i _ (isSto_of h)
  cases g2 with
  | sto hs => exact ⟨_, _, hs, g1, k.cov.sto _ _ hs⟩
theorem ss_setS {i : Nat} {F Gj : EV → M D} (h : PS X s (tAsg (TE X.xi X.K W F) (gSub (tVar i) (TE X.xi X.K W Gj) rSetL))) (hj : ∀ ρ m, (∃ k, Gj ρ m = .ok (.int k) m) ∨ Gj ρ m = .bad) : SS1 X W s (gSetS i F Gj) := by
  refine ⟨PS.imp h fun Dn σ H ⟨st, S, ρ, m, H0, k, e, o⟩ => ?_⟩
  refine TE.stm k e o fun v d m1 H1 c1 k1 cv1 e1 r1 o1 => ?_
  have hst : isSto i ρ = true := by
    rw [exB_run] at o1
    rcases hj (vw [] ρ) m1 with ⟨kk, q⟩ | q
    · rw [q] at o1
      by_cases hh : isSto i ρ = true
      · exact hh
      · replace o1 : OutS X.K W st S H0 H1 σ ρ ((if isSto i ρ = true then setSt d (.int kk) ρ else M.bad) m1) Dn := o1
        rw [if_neg hh] at o1; exact o1.elim
    · rw [q] at o1; exact o1.elim
  obtain ⟨a, c, hs, hu, sa⟩ := EnvS.sto k1 e1 hst
  refine ⟨.ref a, hu, ?_⟩
  refine TE.stm k1 e1 o1 fun y j m2 H2 c2 k2 cv2 e2 r2 o2 => ?_
  rw [if_pos hst] at o2
  have sa2 := k2.cov.sto a c hs
  cases d <;> try exact o2.elim
  cases j <;> try exact o2.elim
  rename_i z kk
  cases r1
  cases r2
  replace o2 : OutS X.K W st S H0 H2 σ ρ (match ixN (m2.xs.length + 1) kk with
    | some (n + 1) => .ok (.nx ρ) ⟨m2.cs, m2.xs.set n z⟩
    | _ => .bad) Dn := o2
  cases q3 : ixN (m2.xs.length + 1) kk with
  | none => rw [q3] at o2; exact o2.elim
  | some n =>
    cases n with
    | zero => rw [q3] at o2; exact o2.elim
    | succ n =>
      rw [q3] at o2
      have cw : Chg (fun b => b = a) H2 (upd H2 a (.lst ((.ref c :: m2.xs.map V.int).set (n + 1) (.int z)))) := Chg.write sa2.at_ rfl rfl
      have cs : Chg (atSt st) H2 (upd H2 a (.lst ((.ref c :: m2.xs.map V.int).set (n + 1) (.int z)))) := cw.mono fun b e => ⟨c, by rw [e]; exact hs⟩
      have cv3 : Cov X.K st S (upd H2 a (.lst ((.ref c :: m2.xs.map V.int).set (n + 1) (.int z)))) ⟨m2.cs, m2.xs.set n z⟩ := by
        refine ⟨fun b hb => cs.there (k2.cov.dom b hb), fun a' c' e' => ?_⟩
        rw [hs] at e'; cases e'
        refine ⟨sa2.sa, ?_, cs.fz sa2.cs⟩
        rw [upd_same]
        simp [List.map_set]
      exact ⟨a, _, kk, n + 1, rfl, rfl, sa2.at_, by simpa using q3, o2 σ _ (k2.after cs cv3) (e2.after k2 cs) (Pers.after k2 cs)⟩
theorem RepL.eraseIdx {K : PySem.W.Frag} {st : Stx xi} {S : Addr → Prop} {H : Hp} : ∀ {vs : List V} {ds : List D} (n : Nat), RepL K st S H vs ds → RepL K st S H (vs.eraseIdx n) (ds.eraseIdx n)
  | _, _, _, .nil => .nil
  | _, _, 0, .cons r t => t
  | _, _, n + 1, .cons r t => .cons r (RepL.eraseIdx n t)
/-- x.append(y.pop(e)), x and y own lists -/
def movD (io il : Nat) (ρ : SV) : D → M Fl
  | .int j => match ρ[io]?, ρ[il]? with
    | some (.ow xs), some (.ow ys) => match seqIndex? j ys.length with
      | some k => match ys[k]? with
        | some y => if -(2 ^ 63) ≤ j ∧ j < 2 ^ 63 ∧ io ≠ il then do
            lim (xs.length + 1)
            pure (.nx ((ρ.set il (.ow (ys.eraseIdx k))).set io (.ow (xs ++ [y])))) else M.bad
        | none => M.bad
      | none => M.bad
    | _, _ => M.bad
  | _ => M.bad
def isOw (i : Nat) (ρ : SV) : Bool := match ρ[i]? with
  | some (.ow _) => true
  | _ => false
def gMov (io il : Nat) (F : EV → M D) : SV → M Fl := fun ρ => if (isOw io ρ && isOw il ρ) = true then exB (F (vw (allM ρ) ρ)) ρ fun d => movD io il ρ d else M.bad
theorem isOw_of {i : Nat} {ρ : SV} (h : isOw i ρ = true) : ∃ xs, ρ[i]? = some (.ow xs) := by
  unfold isOw at h
  cases e : ρ[i]? with
  | none => rw [e] at h; cases h
  | some sl =>
    rw [e] at h
    cases sl with
    | ow xs => exact ⟨xs, rfl⟩
    | _ => cases h
theorem ss_mov {io il : Nat} {F : EV → M D} (h : PS X s (tDrop (tBM X.K "list" rAppend (tVar io) (tCons (tBM X.K "list" rPopAt (tVar il) (tCons (TE X.xi X.K W F) tNil)) tNil)))) : SS1 X W s (gMov io il F) := by
  refine ⟨PS.imp h fun Dn σ H ⟨st, S, ρ, m, H0, k, e, o⟩ => ?_⟩
  unfold gMov at o
  by_cases hc : (isOw io ρ && isOw il ρ) = true
  case neg => rw [if_neg hc] at o; exact o.elim
  rw [if_pos hc] at o
  obtain ⟨h1, h2⟩ := (Bool.and_eq_true _ _).mp hc
  obtain ⟨xs, q1⟩ := isOw_of h1
  obtain ⟨ys, q2⟩ := isOw_of h2
  obtain ⟨a, vs, a1, a2, a3, a4⟩ := e.ow io xs q1
  obtain ⟨b, ws, b1, b2, b3, b4⟩ := e.ow il ys q2
  refine ⟨.ref a, a1, .inl ⟨rfl, _, SqL.of a2⟩, .ref b, b1, .inl ⟨rfl, _, SqL.of b2⟩, ?_⟩
  refine TE.stm k e o fun v d m1 H1 c1 k1 cv1 e1 r1 o1 => ?_
  cases d <;> try exact o1.elim
  rename_i j
  cases r1
  unfold movD at o1
  rw [q1, q2] at o1
  simp only at o1
  cases q3 : seqIndex? j ys.length with
  | none => rw [q3] at o1; exact o1.elim
  | some n =>
    rw [q3] at o1
    simp only at o1
    cases q4 : ys[n]? with
    | none => rw [q4] at o1; exact o1.elim
    | some y =>
      rw [q4] at o1
      simp only at o1
      by_cases hh : -(2 ^ 63) ≤ j ∧ j < 2 ^ 63 ∧ io ≠ il
      case neg => rw [if_neg hh] at o1; exact o1.elim
      rw [if_pos hh] at o1
      obtain ⟨hz, o3⟩ := out_lim (P := fun r => OutS X.K W st S H0 H1 σ ρ r Dn) (fun z => z) o1
      obtain ⟨a', vs', f1, f2, f3, f4⟩ := e1.ow io xs q1
      obtain ⟨b', ws', g1, g2, g3, g4⟩ := e1.ow il ys q2
      rw [a1] at f1; cases f1
      rw [b1] at g1; cases g1
      obtain ⟨yv, y1, y2⟩ := g4.get q4
      obtain ⟨k2, e2, p2⟩ := EnvS.write k1 e1 q2 b1 g2 (g4.eraseIdx n)
      have q1' : (ρ.set il (.ow (ys.eraseIdx n)))[io]? = some (.ow xs) := by rw [List.getElem?_set_ne (Ne.symm hh.2.2)]; exact q1
      obtain ⟨a'', vs'', i1, i2, i3, i4⟩ := e2.ow io xs q1'
      rw [a1] at i1; cases i1
      obtain ⟨k3, e3, p3⟩ := EnvS.write k2 e2 q1' a1 i2 (i4.append (.cons (p2.rep _ _ y2) .nil))
      exact ⟨b, ws', j, n, yv, rfl, rfl, g2, hh.1, hh.2.1, by rw [g4.length]; exact q3, y1, a, vs'', yv, rfl, rfl, i2, by rw [i4.length]; omega, o3 σ _ k3 e3 (p2.trans p3)⟩
end
end Den
set_option Elab.async false
set_option linter.all false
set_option maxRecDepth 100000
set_option maxHeartbeats 4000000
namespace Den
open PySem PySem.Spec PyProof.Rows L2
def fC (d : D) : EV → M D := fun _ => pure d
def f2 (g : D → D → M D) (F G : EV → M D) : EV → M D := fun ρ => do let x ← F ρ; let y ← G ρ; g x y
def f1 (g : D → M D) (F : EV → M D) : EV → M D := fun ρ => do let x ← F ρ; g x
def fL (g : List D → M D) (A : EV → M (List D)) : EV → M D := fun ρ => do let ds ← A ρ; g ds
def fTup (A : EV → M (List D)) : EV → M D := fun ρ => do let ds ← A ρ; lim ds.length; pure (.tup ds)
def lDis (A : EV → M (List D)) : EV → M (List D) := fun ρ => do let ds ← A ρ; lim ds.length; pure ds
def fNew (L : EV → M (List D)) : EV → M D := fun ρ => do let xs ← L ρ; pure (.lst xs)
def aN : EV → M (List D) := fun _ => pure []
def aC (F : EV → M D) (A : EV → M (List D)) : EV → M (List D) := fun ρ => do let d ← F ρ; let ds ← A ρ; pure (d :: ds)
def tT (F : EV → M D) : EV → M Bool := fun ρ => do let x ← F ρ; dTru x
def t2 (g : D → D → M D) (F G : EV → M D) : EV → M Bool := fun ρ => do let x ← F ρ; let y ← G ρ; let z ← g x y; asB z
def tYes : EV → M Bool := fun _ => pure true
def tNo (C : EV → M Bool) : EV → M Bool := fun ρ => do let b ← C ρ; pure (!b)
def tAnd (C C' : EV → M Bool) : EV → M Bool := fun ρ => do let x ← C ρ; if x = true then C' ρ else pure false
def tOr (C C' : EV → M Bool) : EV → M Bool := fun ρ => do let x ← C ρ; if x = true then pure true else C' ρ
def fAnd (F F' : EV → M D) : EV → M D := fun ρ => do let x ← F ρ; let b ← dTru x; if b = true then F' ρ else pure x
def fOr (F F' : EV → M D) : EV → M D := fun ρ => do let x ← F ρ; let b ← dTru x; if b = true then pure x else F' ρ
def fNot (F : EV → M D) : EV → M D := fun ρ => do let x ← F ρ; let b ← dTru x; pure (.bl (!b))
def fIf (C : EV → M Bool) (F F' : EV → M D) : EV → M D := fun ρ => do let x ← C ρ; if x = true then F ρ else F' ρ
def fCh (g g' : D → D → M D) (F G H : EV → M D) : EV → M D := fun ρ => do let x ← F ρ; let y ← G ρ; let z ← g x y; let k ← asB z; if k = true then (do let u ← H ρ; g' y u) else pure (.bl false)
def iSeq (F : EV → M D) : EV → M (List D) := fun ρ => do let x ← F ρ; dIts x
def iRan (n : Nat) (A : EV → M (List D)) : EV → M (List D) := fun ρ => do let ds ← A ρ; need (decide (ds.length = n)); dRange ds
def iG (g : List D → M (List D)) (A : EV → M (List D)) : EV → M (List D) := fun ρ => do let ds ← A ρ; g ds
def oNo : EV → M (Option Int) := fun _ => pure none
def oYes (F : EV → M D) : EV → M (Option Int) := fun ρ => do let x ← F ρ; asI x
/-- a def of the law, by its function -/
structure Cal (P : Program) (w : World) (K : PySem.W.Frag) (mg : Str → Option Value) (base : Heap) (k : Nat) (x : Str) (params : Arguments) (body : List Stmt) (scope : Scope) (ps : List Str) (g : List D → M D) : Prop where
  ex : ∃ (f : Addr) (fd : FuncData), mg x = some (.ref f) ∧ FunD K x x params body scope [] [] f fd ∧ Binds K fd ps [] ∧ FnOk P w K mg base (L2N.CX P w) k f fd ps (spOf K g)
theorem bt_len : bootBuiltins "len" = some (.builtin "len") := by decide +kernel
theorem bt_min : bootBuiltins "min" = some (.builtin "min") := by decide +kernel
theorem bt_max : bootBuiltins "max" = some (.builtin "max") := by decide +kernel
theorem bt_all : bootBuiltins "all" = some (.builtin "all") := by decide +kernel
theorem bt_any : bootBuiltins "any" = some (.builtin "any") := by decide +kernel
theorem bt_int : bootBuiltins "int" = some (.type "int") := by decide +kernel
theorem bt_str : bootBuiltins "str" = some (.type "str") := by decide +kernel
theorem bt_bool : bootBuiltins "bool" = some (.type "bool") := by decide +kernel
theorem bt_list : bootBuiltins "list" = some (.type "list") := by decide +kernel
theorem bt_tuple : bootBuiltins "tuple" = some (.type "tuple") := by decide +kernel
section
variable {X : Cx} {W : WX} {pos p : Pos}
theorem xV (i : Nat) {x : Str} (hN : X.N[i]? = some x := by rfl) (hv : Vis X.env.scope x := by first | exact Or.inl rfl | exact Or.inr (Or.inl rfl) | exact Or.inr (Or.inr rfl)) (hd : (x == ("__debug__" : Str)) = false := by decide) (hcd : (x == ("__classdict__" : Str)) = false := by decide) : SE X W (.Name x pos) (gVar i) := se_var (pv i hN hv hd hcd)
theorem xI {i : Int} {j} : SE X W (.Constant (.int i) j pos) (fC (.int i)) := se_int
theorem xB {b : Bool} {j} : SE X W (.Constant (.bool b) j pos) (fC (.bl b)) := se_bl
theorem xN {j} : SE X W (.Constant .none j pos) (fC .non) := se_non
theorem xS {x : Str} {j} : SE X W (.Constant (.str x) j pos) (fC (.str x)) := se_str
theorem xGI {x : Str} {i : Int} (hm : ∃ t, X.mg x = some (.int i t)) (hg : Gl X x := by rfl) (hd : (x == ("__debug__" : Str)) = false := by decide) : SE X W (.Name x pos) (fC (.int i)) := by
  obtain ⟨t, h⟩ := hm
  exact se_con (v := .int i) (pe_glob hg h ⟨t, rfl⟩ hd) fun _ _ _ => .int i
section
variable {a b c : Expr} {F G J : EV → M D} {C C' : EV → M Bool} {A : EV → M (List D)}
theorem xAdd (ha : SE X W a F) (hb : SE X W b G) : SE X W (.BinOp a .Add b pos) (f2 dAdd F G) := se_op dAdd op_addD vr_add ha hb
theorem xSub (ha : SE X W a F) (hb : SE X W b G) : SE X W (.BinOp a .Sub b pos) (f2 dSub F G) := se_op dSub op_sub vr_sub ha hb
theorem xMul (ha : SE X W a F) (hb : SE X W b G) : SE X W (.BinOp a .Mult b pos) (f2 dMul F G) := se_op dMul (op_rep.or op_mul) vr_mul ha hb
theorem xMod (ha : SE X W a F) (hb : SE X W b G) : SE X W (.BinOp a .Mod b pos) (f2 dMod F G) := se_op dMod op_mod vr_mod ha hb
theorem xDiv (ha : SE X W a F) (hb : SE X W b G) : SE X W (.BinOp a .FloorDiv b pos) (f2 dDiv F G) := se_op dDiv op_fdivW vr_div ha hb
theorem xPow (ha : SE X W a F) (hb : SE X W b G) : SE X W (.BinOp a .Pow b pos) (f2 dPow F G) := se_op dPow op_pow vr_pow ha hb
theorem xLe (ha : SE X W a F) (hb : SE X W b G) : SE X W (.Compare a [.LtE] [b] pos) (f2 dLe F G) := se_cmp dLe op_le vr_le ha hb (nomark _)
theorem xEq {k : Nat} (hr : Room k X.A) (ha : SE X W a F) (hb : SE X W b G) : SE X W (.Compare a [.Eq] [b] pos) (f2 dEq F G) := se_cmp dEq (op_eqD hr.units) vr_eq ha hb (nomark _)
theorem xIs (ha : SE X W a F) (hb : SE X W b G) : SE X W (.Compare a [.Is] [b] pos) (f2 dIsN F G) := se_cmp dIsN op_isD vr_is ha hb (nomark _)
theorem xIn (ha : SE X W a F) (hb : SE X W b G) (hm : behindInMarks .In b = false := by with_unfolding_all rfl) : SE X W (.Compare a [.In] [b] pos) (f2 dIn F G) := se_cmp dIn op_in_seq vr_in ha hb hm
theorem cLt (ha : SE X W a F) (hb : SE X W b G) : ST X W (.Compare a [.Lt] [b] pos) (t2 dLt F G) := st_cmp dLt op_lt vr_lt ha hb (nomark _)
theorem cLe (ha : SE X W a F) (hb : SE X W b G) : ST X W (.Compare a [.LtE] [b] pos) (t2 dLe F G) := st_cmp dLe op_le vr_le ha hb (nomark _)
theorem cGt (ha : SE X W a F) (hb : SE X W b G) : ST X W (.Compare a [.Gt] [b] pos) (t2 dGt F G) := st_cmp dGt op_gt vr_gt ha hb (nomark _)
theorem cGe (ha : SE X W a F) (hb : SE X W b G) : ST X W (.Compare a [.GtE] [b] pos) (t2 dGe F G) := st_cmp dGe op_ge vr_ge ha hb (nomark _)
theorem cEq {k : Nat} (hr : Room k X.A) (ha : SE X W a F) (hb : SE X W b G) : ST X W (.Compare a [.Eq] [b] pos) (t2 dEq F G) := st_cmp dEq (op_eqD hr.units) vr_eq ha hb (nomark _)
theorem cNe {k : Nat} (hr : Room k X.A) (ha : SE X W a F) (hb : SE X W b G) : ST X W (.Compare a [.NotEq] [b] pos) (t2 dNe F G) := st_cmp dNe (op_neD hr.units) vr_ne ha hb (nomark _)
theorem cIs (ha : SE X W a F) (hb : SE X W b G) : ST X W (.Compare a [.Is] [b] pos) (t2 dIsN F G) := st_cmp dIsN op_isD vr_is ha hb (nomark _)
/-- a < b < c of ints; the first of <, <= -/
theorem xCh {op op' : CmpOp} {r r' : R2} (g g' : D → D → M D) (ho : OpR X (compareOp op) r) (hr : VR2 X.K r g) (ho' : OpR X (compareOp op') r') (hr' : VR2 X.K r' g') (ha : SE X W a F) (hb : SE X W b G) (hc : SE X W c J)
    (hm : lastMarks [op, op'] [b, c] = false := by with_unfolding_all rfl) : SE X W (.Compare a [op, op'] [b, c] pos) (fCh g g' F G J) := se_chain g g' ho hr ho' hr' ha hb hc fun h1 h2 h3 => pe_chain ho ho' h1 h2 h3 hm
theorem xOne {op} (ha : SE X W a F) : SE X W (.BoolOp op [a] pos) F := se_one ha
theorem xAnd {rest : List Expr} (ha : SE X W a F) (hb : SE X W (.BoolOp .And (b :: rest) pos) G) : SE X W (.BoolOp .And (a :: b :: rest) pos) (fAnd F G) := se_and ha hb
theorem xNot (ha : SE X W a F) : SE X W (.UnaryOp .Not a pos) (fNot F) := se_not ha
theorem xIf (hc : ST X W c C) (ha : SE X W a F) (hb : SE X W b G) : SE X W (.IfExp c a b pos) (fIf C F G) := se_ifx hc ha hb
theorem cTru (ha : SE X W a F) (he : ∀ whole, isTrue a X.env whole = (do let v ← whole; standAt a.pos; holding [v] (truthy v)) := by intro _; rfl) : ST X W a (tT F) := st_tru ha he
theorem cNot (ha : ST X W a C) : ST X W (.UnaryOp .Not a pos) (tNo C) := st_not ha
theorem cAnd1 (ha : ST X W a C) : SW X W (.BoolOp .And [a] pos) C := sw_and1 ha
theorem cOr1 (ha : ST X W a C) : SW X W (.BoolOp .Or [a] pos) C := sw_or1 ha
theorem cAnd {rest : List Expr} (ha : ST X W a C) (hb : SW X W (.BoolOp .And (b :: rest) pos) C') : SW X W (.BoolOp .And (a :: b :: rest) pos) (tAnd C C') := sw_and ha hb
theorem cOr {rest : List Expr} (ha : ST X W a C) (hb : SW X W (.BoolOp .Or (b :: rest) pos) C') : SW X W (.BoolOp .Or (a :: b :: rest) pos) (tOr C C') := sw_or ha hb
theorem xIx (ha : SE X W a F) (hb : SE X W b G) (hs : PlainIx b := by exact fun _ _ => rfl) : SE X W (.Subscript a b pos) (f2 dIx F G) := se_ix dIx ix_seq vr_ix ha hb hs
theorem xTup {es : List Expr} {x1} (h : SA X W es A) : SE X W (.Tuple es x1 pos) (fTup A) := se_tup h
theorem lLst {es : List Expr} (h : SA X W es A) : SF X W (.List es pos) (lDis A) := sf_lst h
theorem xNew {L : EV → M (List D)} (h : SF X W a L) : SE X W a (fNew L) := se_new h
theorem aNil : SA X W [] aN := sa_nil
theorem aCons {es : List Expr} (ha : SE X W a F) (hr : SA X W es A) (hs : starEach (a :: es) X.env = (false, eval a X.env) :: starEach es X.env := by rfl) : SA X W (a :: es) (aC F A) := sa_cons ha hr hs
theorem oNone : SO X W none oNo := so_none
theorem oSome (h : SE X W a F) : SO X W (some a) (oYes F) := so_some h
theorem lSl {lo hi : Option Expr} {p2 : Pos} {P P' : EV → M (Option Int)} (h : SE X W a F) (hl : SO X W lo P) (hh : SO X W hi P') : SF X W (.Subscript a (.Slice lo hi none p2) pos) (gSlice F P P') := sf_slice h hl hh
end
section
variable {e : Expr} {es : List Expr} {A : EV → M (List D)} {x : Str} {k : Nat} {params : Arguments} {body : List Stmt} {scope : Scope} {ps : List Str} {g : List D → M D}
theorem xCall (c : Cal X.prog X.w X.K X.mg X.base k x params body scope ps g) (tk : Takes X W) (hr : Room k X.A) (ha : SA X W (e :: es) A) (hg : Gl X x := by rfl)
    (hdb : (x == ("__debug__" : Str)) = false := by decide) (he : starEach (e :: es) X.env = (false, eval e X.env) :: starEach es X.env := by rfl) (hpl : (backTo pos (starEach es X.env)).any (·.1) = false := by rfl) :
    SE X W (.Call (.Name x p) (e :: es) [] pos) (fL g A) := by
  obtain ⟨f, fd, h1, h2, h3, h4⟩ := c.ex
  exact se_call tk h4 hr hg h1 h2.kp h3 ha hdb he hpl
theorem xLen (hm : X.mg "len" = none) (ha : SA X W (e :: es) A) (hg : Gl X "len" := by rfl) (he : starEach (e :: es) X.env = (false, eval e X.env) :: starEach es X.env := by rfl) (hpl : (backTo pos (starEach es X.env)).any (·.1) = false := by rfl) :
    SE X W (.Call (.Name "len" p) (e :: es) [] pos) (fL dLen A) := se_callB dLen call_len vr_len hg hm bt_len ha (by decide) (by decide) he hpl
theorem xMin (hc : X.calm = true) (hm : X.mg "min" = none) (ha : SA X W (e :: es) A) (hg : Gl X "min" := by rfl) (he : starEach (e :: es) X.env = (false, eval e X.env) :: starEach es X.env := by rfl) (hpl : (backTo pos (starEach es X.env)).any (·.1) = false := by rfl) :
    SE X W (.Call (.Name "min" p) (e :: es) [] pos) (fL dMin A) := se_callB dMin (call_min2 hc) vr_min hg hm bt_min ha (by decide) (by decide) he hpl
theorem xMax (hc : X.calm = true) (hm : X.mg "max" = none) (ha : SA X W (e :: es) A) (hg : Gl X "max" := by rfl) (he : starEach (e :: es) X.env = (false, eval e X.env) :: starEach es X.env := by rfl) (hpl : (backTo pos (starEach es X.env)).any (·.1) = false := by rfl) :
    SE X W (.Call (.Name "max" p) (e :: es) [] pos) (fL dMax A) := se_callB dMax (call_max2 hc) vr_max hg hm bt_max ha (by decide) (by decide) he hpl
theorem xInt (hm : X.mg "int" = none) (ha : SA X W (e :: es) A) (hg : Gl X "int" := by rfl) (he : starEach (e :: es) X.env = (false, eval e X.env) :: starEach es X.env := by rfl) (hpl : (backTo pos (starEach es X.env)).any (·.1) = false := by rfl) :
    SE X W (.Call (.Name "int" p) (e :: es) [] pos) (fL dInt A) := se_callT dInt call_int1 vr_int hg hm bt_int ha (by decide) (by decide) he hpl
theorem xTuple (hm : X.mg "tuple" = none) (ha : SA X W (e :: es) A) (hg : Gl X "tuple" := by rfl) (he : starEach (e :: es) X.env = (false, eval e X.env) :: starEach es X.env := by rfl) (hpl : (backTo pos (starEach es X.env)).any (·.1) = false := by rfl) :
    SE X W (.Call (.Name "tuple" p) (e :: es) [] pos) (fL dTuple A) := se_callT dTuple call_tupN vr_tuple hg hm bt_tuple ha (by decide) (by decide) he hpl
theorem xAll (hc : X.calm = true) (hm : X.mg "all" = none) (ha : SA X W (e :: es) A) (hg : Gl X "all" := by rfl) (he : starEach (e :: es) X.env = (false, eval e X.env) :: starEach es X.env := by rfl) (hpl : (backTo pos (starEach es X.env)).any (·.1) = false := by rfl) :
    SE X W (.Call (.Name "all" p) (e :: es) [] pos) (fL dAll A) := se_callB dAll (cr_all hc) vr_all hg hm bt_all ha (by decide) (by decide) he hpl
theorem xAny (hc : X.calm = true) (hm : X.mg "any" = none) (ha : SA X W (e :: es) A) (hg : Gl X "any" := by rfl) (he : starEach (e :: es) X.env = (false, eval e X.env) :: starEach es X.env := by rfl) (hpl : (backTo pos (starEach es X.env)).any (·.1) = false := by rfl) :
    SE X W (.Call (.Name "any" p) (e :: es) [] pos) (fL dAny A) := se_callB dAny (cr_any hc) vr_any hg hm bt_any ha (by decide) (by decide) he hpl
end
section
variable {tg a b : Expr} {F : EV → M D} {A : EV → M (List D)}
theorem jSeq (h : SE X W a F) : SI false X W tg a (iSeq F) := si_seq h
theorem jR1 (hm : X.mg "range" = none) (ha : SA X W [a] A) (hg : Gl X "range" := by rfl) (hs : starEach [a] X.env = [(false, eval a X.env)] := by rfl) : SI false X W tg (.Call (.Name "range" p) [a] [] pos) (iRan 1 A) := si_range1 hg hm ha hs
theorem jEn {elts : List Expr} {kk : Nat} {tpos : Pos} (hm : X.mg "enumerate" = none) (ha : SA X W [a] A) (hg : Gl X "enumerate" := by rfl) (hs : starEach [a] X.env = [(false, eval a X.env)] := by rfl) :
    SI true X W (.Tuple elts kk tpos) (.Call (.Name "enumerate" p) [a] [] pos) (iG dEnum A) := si_enum hg hm ha hs
end
section
variable {e : Expr} {F : EV → M D} {L : EV → M (List D)} {x : Str} {pn : Pos}
theorem sLet (i : Nat) (mk : List Bool) (hN : X.N.Nodup) (h : SE X W e F) (hi : X.N[i]? = some x := by rfl) (hx : Loc X.env.scope x := by first | exact Or.inl rfl | exact Or.inr rfl) (hs : swapsWith e (some (.Name x pn)) pos.line X.env = pure false := by rfl)
    (hf : X.fn x = true ∨ X.env.scope.names.lookup x = some .local := by first | exact .inr rfl | exact .inl rfl) : SS1 X W (.Assign [.Name x pn] e pos) (gAsg i mk F) := ss_asg mk (ps_set hN hi hx h.pe hs hf)
theorem sOwn (i : Nat) (mk : List Bool) (hN : X.N.Nodup) (h : SF X W e L) (hi : X.N[i]? = some x := by rfl) (hx : Loc X.env.scope x := by first | exact Or.inl rfl | exact Or.inr rfl) (hs : swapsWith e (some (.Name x pn)) pos.line X.env = pure false := by rfl)
    (hf : X.fn x = true ∨ X.env.scope.names.lookup x = some .local := by first | exact .inr rfl | exact .inl rfl) : SS1 X W (.Assign [.Name x pn] e pos) (gNew i mk L) := ss_new mk (ps_set hN hi hx h.pe hs hf)
theorem sApp (i : Nat) (mk : List Bool) {apos : Pos} (h : SE X W e F) (hi : X.N[i]? = some x := by rfl) (hv : Vis X.env.scope x := by first | exact Or.inl rfl | exact Or.inr (Or.inl rfl)) (hd : (x == ("__debug__" : Str)) = false := by decide) (hcd : (x == ("__classdict__" : Str)) = false := by decide)
    (hl : (apos.endLine == pos.line) = true := by rfl) (he : starEach [e] X.env = (false, eval e X.env) :: starEach [] X.env := by rfl)
    (hb : attributeBase (.Name x pn) "append" X.env (eval (.Name x pn) X.env) = eval (.Name x pn) X.env := by rfl)
    (hw : ((backTo pos (starEach [e] X.env)).all (fun x => !x.1) && (backToKw pos (keywordEach [] X.env)).all (fun x => x.1.isSome)
      && decide ([e].length + ([] : List Keyword).length + (if ([] : List Keyword).isEmpty then 0 else 1) < 30)) = true := by rfl)
    (hp : (backTo pos (starEach [] X.env)).any (·.1) = false := by rfl) (hs : swapsWith (.Call (.Attribute (.Name x pn) "append" apos) [e] [] pos) none p.line X.env = pure false := by rfl) :
    SS1 X W (.Expr (.Call (.Attribute (.Name x pn) "append" apos) [e] [] pos) p) (gApp i mk F) :=
  ss_app mk (ps_expr (pe_bm PySem.F.plainAttrs_list PySem.F.slot_list_append PySem.F.type_list_append mt_append (pv i hi hv hd hcd) (pa_cons h.pe pa_nil he) hb hw hl he hp) hs) fun σ H Q h => h
end
end
end Den
set_option Elab.async false
set_option linter.all false
set_option maxRecDepth 100000
set_option maxHeartbeats 4000000
namespace Den
open PySem PySem.Spec PyProof.Rows L2
section
variable {X : Cx} {W : WX} {pos p : Pos}
theorem new_imp {K : PySem.W.Frag} {L : EV → M (List D)} {σ : L2.St} {H : Hp} {Q : VK} (h : TE xi K W (fNew L) σ H Q) : TF xi K W L σ H Q := by
  obtain ⟨st, S, ρ, m, cv, er, o⟩ := h
  refine ⟨st, S, ρ, m, cv, er, ?_⟩
  replace o : Out K st S H ((L ρ >>= fun xs => pure (.lst xs)) m) Q (WE W σ) := o
  rw [bind_run] at o
  cases e1 : L ρ m with
  | ok ds m1 =>
    rw [e1] at o
    exact fun p vs H' n c cv1 hp r => o _ H' c cv1 (.lst (cv.out n) hp (r.mono (B := noB) (Chg.refl H') (fun _ z => z.elim) fun _ z => .inl z))
  | err c fs m1 => rw [e1] at o; exact o
  | bad => rw [e1] at o; exact o.elim
theorem lt_of_at {α : Type} {l : List α} {i : Nat} {x : α} (h : l[i]? = some x) : i < l.length := (List.getElem?_eq_some_iff.mp h).1
section
variable {x y : Str} {px py : Pos} {elt iter : Expr} {ifs : List Expr} {scope : Scope} {I : EV → M (List D)} {C : EV → M Bool} {E : EV → M D}
theorem lLc (i : Nat) (hc : X.calm = true) (hN : X.N.Nodup) (hI : SI false X W (.Name x px) iter I)
    (ht : ∀ (s : Shared) (H : Hp) (D : Addr) (cl : List (Str × Addr)) (fp : List Addr), STs (X.blk s H scope (compEnvC scope cl D X.env) fp) W0 ifs C)
    (he : ∀ (s : Shared) (H : Hp) (D : Addr) (cl : List (Str × Addr)) (fp : List Addr), SE (X.blk s H scope (compEnvC scope cl D X.env) fp) W0 elt E)
    (ok : blkC X.N X.env.scope scope [(x, i)] = true := by kernel_rfl) (hx : X.N[i]? = some x := by rfl)
    (hg : ∀ (s : Shared) (H : Hp) (D : Addr) (cl : List (Str × Addr)) (fp : List Addr), PG (X.blk s H scope (compEnvC scope cl D X.env) fp) (.Name x px) (gName i) := by
      first | exact fun _ _ _ _ _ => pg_name (by assumption) rfl (Or.inl rfl) (Or.inr rfl) | exact fun _ _ _ _ _ => pg_name (by assumption) rfl (Or.inr rfl) (Or.inl rfl))
    (hs : ∀ x, foldedSetIterable iter X.env x = pure x := by intro _; rfl) :
    SF X W (.ListComp elt [⟨.Name x px, iter, ifs, 0⟩] scope pos) (compV (eName i) I C E) := sf_lc hc hN (lt_of_at hx) hI (blkOk_by ok) hg ht he hs
theorem lLcP (i j : Nat) (hij : i ≠ j) {kk : Nat} {tpos : Pos} (hc : X.calm = true) (hN : X.N.Nodup) (hI : SI true X W (.Tuple [.Name x px, .Name y py] kk tpos) iter I)
    (ht : ∀ (s : Shared) (H : Hp) (D : Addr) (cl : List (Str × Addr)) (fp : List Addr), STs (X.blk s H scope (compEnvC scope cl D X.env) fp) W0 ifs C)
    (he : ∀ (s : Shared) (H : Hp) (D : Addr) (cl : List (Str × Addr)) (fp : List Addr), SE (X.blk s H scope (compEnvC scope cl D X.env) fp) W0 elt E)
    (ok : blkC X.N X.env.scope scope [(x, i), (y, j)] = true := by kernel_rfl) (hx : X.N[i]? = some x := by rfl) (hy : X.N[j]? = some y := by rfl)
    (hg : ∀ (s : Shared) (H : Hp) (D : Addr) (cl : List (Str × Addr)) (fp : List Addr), PG (X.blk s H scope (compEnvC scope cl D X.env) fp) (.Tuple [.Name x px, .Name y py] kk tpos) (gTup X.K 2 (gCons (gName i) (gCons (gName j) gNil))) := by
      exact fun _ _ _ _ _ => pg_tup rfl (pgs_cons (pg_name (by assumption) rfl (by first | exact Or.inl rfl | exact Or.inr rfl) (by first | exact Or.inr rfl | exact Or.inl rfl)) (pgs_cons (pg_name (by assumption) rfl (by first | exact Or.inl rfl | exact Or.inr rfl) (by first | exact Or.inr rfl | exact Or.inl rfl)) pgs_nil)))
    (hs : ∀ x, foldedSetIterable iter X.env x = pure x := by intro _; rfl) :
    SF X W (.ListComp elt [⟨.Tuple [.Name x px, .Name y py] kk tpos, iter, ifs, 0⟩] scope pos) (compV (ePair i j) I C E) :=
  sf_lcG (own := [(x, i), (y, j)]) hc hN (fun q hq => by
    simp at hq
    rcases hq with e | e
    · rw [e]; exact lt_of_at hx
    · rw [e]; exact lt_of_at hy) hI (blkOk_by ok) (bndE_pair hij) hg ht he hs
theorem cNone {X : Cx} {W : WX} : STs X W [] tYes := sts_nil
theorem cOne {X : Cx} {W : WX} {c : Expr} {C : EV → M Bool} (h : ST X W c C) : STs X W [c] C := sts_one h
/-- z = [..] with one name -/
theorem sLc (z i : Nat) (mk : List Bool) {zn : Str} {pz spos : Pos} (hc : X.calm = true) (hN : X.N.Nodup) (hI : SI false X W (.Name x px) iter I)
    (ht : ∀ (s : Shared) (H : Hp) (D : Addr) (cl : List (Str × Addr)) (fp : List Addr), STs (X.blk s H scope (compEnvC scope cl D X.env) fp) W0 ifs C)
    (he : ∀ (s : Shared) (H : Hp) (D : Addr) (cl : List (Str × Addr)) (fp : List Addr), SE (X.blk s H scope (compEnvC scope cl D X.env) fp) W0 elt E)
    (ok : blkC X.N X.env.scope scope [(x, i)] = true := by kernel_rfl) (hz : X.N[z]? = some zn := by rfl) (hx : X.N[i]? = some x := by rfl) (hzl : X.env.scope.names.lookup zn = some .local := by rfl)
    (hg : ∀ (s : Shared) (H : Hp) (D : Addr) (cl : List (Str × Addr)) (fp : List Addr), PG (X.blk s H scope (compEnvC scope cl D X.env) fp) (.Name x px) (gName i) := by
      first | exact fun _ _ _ _ _ => pg_name (by assumption) rfl (Or.inl rfl) (Or.inr rfl) | exact fun _ _ _ _ _ => pg_name (by assumption) rfl (Or.inr rfl) (Or.inl rfl))
    (hsw : swapsWith (.ListComp elt [⟨.Name x px, iter, ifs, 0⟩] scope pos) (some (.Name zn pz)) spos.line X.env = pure true := by first | exact sw_true rfl rfl rfl (by decide +kernel) | rfl)
    (hs : ∀ x, foldedSetIterable iter X.env x = pure x := by intro _; rfl) :
    PS X (.Assign [.Name zn pz] (.ListComp elt [⟨.Name x px, iter, ifs, 0⟩] scope pos) spos) (tAsg (TF X.xi X.K W (compV (eName i) I C E)) (gName z)) :=
  ⟨fun pins s σ H Dn Iv h => by
    have e0 := Iv.ok.hd hc
    have hip := hI.pi
    rw [xi_none e0] at h hip
    exact (ps_setLc (i := z) (own := [(x, i)]) (g := gName i) hc hN hz hzl hsw hip (blkOk_by ok) hg (fun s H D cl fp => by have z := (ht s H D cl fp).pt; rw [xi_none (show (X.blk s H scope (compEnvC scope cl D X.env) fp).A.handled = none from e0)] at z; exact z) (fun s H D cl fp => by have z := (he s H D cl fp).pe; rw [xi_none (show (X.blk s H scope (compEnvC scope cl D X.env) fp).A.handled = none from e0)] at z; exact z) hs).run pins s σ H Dn Iv (lc_imp (vs := [i]) (by rw [Iv.len]; simpa using lt_of_at hx) bndE_name h)⟩
theorem sLetLc {s : Stmt} {z : Nat} {L : EV → M (List D)} (mk : List Bool) (h : PS X s (tAsg (TF X.xi X.K W L) (gName z))) : SS1 X W s (gAsg z mk (fNew L)) := ss_asg mk (PS.imp h fun Dn σ H q => new_imp q)
theorem sOwnLc {s : Stmt} {z : Nat} {L : EV → M (List D)} (mk : List Bool) (h : PS X s (tAsg (TF X.xi X.K W L) (gName z))) : SS1 X W s (gNew z mk L) := ss_new mk h
end
section
variable {x y : Str} {px py : Pos} {iter : Expr} {body : List Stmt} {I : EV → M (List D)} {B : SV → M Fl}
theorem sFor (i : Nat) (hN : X.N.Nodup) (hp : PassesOwn (model X.prog X.w) X.A X.env X.xe) (hc : X.calm = true) (hI : SI false X W (.Name x px) iter I) (hB : SS X W body B) (hx : X.N[i]? = some x := by rfl)
    (hl : Loc X.env.scope x := by first | exact Or.inl rfl | exact Or.inr rfl) (hf : X.fn x = true ∨ X.env.scope.names.lookup x = some .local := by first | exact Or.inl rfl | exact Or.inr rfl)
    (hs : ∀ x, foldedSetIterable iter X.env x = pure x := by intro _; rfl) : SS1 X W (.For (.Name x px) iter body [] pos) (gFor I (bName i) B) := ss_for hp hc hI (pg_name hN hx hl hf) bnd_name hB hs
theorem sForP (i j : Nat) {kk : Nat} {tpos : Pos} (hN : X.N.Nodup) (hp : PassesOwn (model X.prog X.w) X.A X.env X.xe) (hc : X.calm = true) (hI : SI true X W (.Tuple [.Name x px, .Name y py] kk tpos) iter I) (hB : SS X W body B) (hx : X.N[i]? = some x := by rfl) (hy : X.N[j]? = some y := by rfl)
    (hl : Loc X.env.scope x := by first | exact Or.inl rfl | exact Or.inr rfl) (hf : X.fn x = true ∨ X.env.scope.names.lookup x = some .local := by first | exact Or.inl rfl | exact Or.inr rfl)
    (hl2 : Loc X.env.scope y := by first | exact Or.inl rfl | exact Or.inr rfl) (hf2 : X.fn y = true ∨ X.env.scope.names.lookup y = some .local := by first | exact Or.inl rfl | exact Or.inr rfl)
    (hn : (assignEach [.Name x px, .Name y py] X.env).length = 2 := by rfl) (hst : (assignEach [.Name x px, .Name y py] X.env).findIdx? (·.1) = none := by rfl)
    (hq : (assignEach [.Name x px, .Name y py] X.env).map (·.2) = assign (.Name x px) X.env :: (assignEach [.Name y py] X.env).map (·.2) := by rfl) (hq2 : (assignEach [.Name y py] X.env).map (·.2) = assign (.Name y py) X.env :: (assignEach [] X.env).map (·.2) := by rfl)
    (hs : ∀ x, foldedSetIterable iter X.env x = pure x := by intro _; rfl) : SS1 X W (.For (.Tuple [.Name x px, .Name y py] kk tpos) iter body [] pos) (gFor I (bPair i j) B) :=
  ss_for hp hc hI (pg_tup hc (pgs_cons (pg_name hN hx hl hf) (pgs_cons (pg_name hN hy hl2 hf2) pgs_nil hq2) hq) hn hst) bnd_pair hB hs
end
section
variable {F G : EV → M D} {a e : Expr} {x : Str}
theorem sSto (i : Nat) {ap sp spos : Pos} (he : SE X W e F) (ha : SE X W a G) (hj : ∀ ρ m, (∃ k, G ρ m = .ok (.int k) m) ∨ G ρ m = .bad := by exact fun _ _ => Or.inl ⟨_, rfl⟩) (hi : X.N[i]? = some x := by rfl) (hv : Vis X.env.scope x := by first | exact Or.inl rfl | exact Or.inr (Or.inl rfl)) (hd : (x == ("__debug__" : Str)) = false := by decide) (hcd : (x == ("__classdict__" : Str)) = false := by decide)
    (h : ∀ {tx tf ti : L2.TE}, PE X (.Name x ap) tx → PE X e tf → PE X a ti → PS X (.Assign [.Subscript (.Name x ap) a sp] e spos) (tAsg tf (gSub tx ti rSetL)) := by exact fun hx hf hi => ps_asg hf (pg_sub hx hi set_list (fun _ => rfl))) :
    SS1 X W (.Assign [.Subscript (.Name x ap) a sp] e spos) (gSetS i F G) := ss_setS (h (pv i hi hv hd hcd) he.pe ha.pe) hj
theorem sRet (h : SE X W e F) : SS1 X W (.Return (some e) pos) (gRet F) := ss_ret h
theorem cBo {C : EV → M Bool} (h : SW X W e C) : ST X W e C := ⟨h.pw.pt⟩
end
end
section
variable {X : Cx} {W : WX} {pos p tp : Pos} {e : Expr} {F : EV → M D}
theorem xIsiG (n : String) {x : Str} (hb : bootBuiltins x = some (.type n)) (hl : (Cl.ty n).okB none = true) (hn : x ≠ "__name__") (hd : (x == ("__debug__" : Str)) = false) (ha : SE X W e F) (hm : X.mg "isinstance" = none) (hm2 : X.mg x = none) (hg : Gl X "isinstance") (hg2 : Gl X x)
    (he : starEach (e :: [.Name x tp]) X.env = (false, eval e X.env) :: starEach [.Name x tp] X.env) (he2 : starEach [.Name x tp] X.env = (false, eval (.Name x tp) X.env) :: starEach [] X.env) (hpl : (backTo pos (starEach [.Name x tp] X.env)).any (·.1) = false) :
    SE X W (.Call (.Name "isinstance" p) [e, .Name x tp] [] pos) (gIsi none [.ty n] F) :=
  se_isi (oc := none) (cl := .ty n) (vc := .ty n) (fun _ h => nomatch h) hl ha (pe_bltn hg2 hm2 hb rfl hn hd) (.ty n) hg hm he he2 hpl
theorem xIsi_int (ha : SE X W e F) (hm : X.mg "isinstance" = none) (hm2 : X.mg "int" = none) (hg : Gl X "isinstance" := by rfl) (hg2 : Gl X "int" := by rfl)
    (he : starEach (e :: [.Name "int" tp]) X.env = (false, eval e X.env) :: starEach [.Name "int" tp] X.env := by rfl) (he2 : starEach [.Name "int" tp] X.env = (false, eval (.Name "int" tp) X.env) :: starEach [] X.env := by rfl) (hpl : (backTo pos (starEach [.Name "int" tp] X.env)).any (·.1) = false := by rfl) :
    SE X W (.Call (.Name "isinstance" p) [e, .Name "int" tp] [] pos) (gIsi none [.ty "int"] F) := xIsiG "int" bt_int (by decide) (by decide) (by decide) ha hm hm2 hg hg2 he he2 hpl
theorem xIsi_bool (ha : SE X W e F) (hm : X.mg "isinstance" = none) (hm2 : X.mg "bool" = none) (hg : Gl X "isinstance" := by rfl) (hg2 : Gl X "bool" := by rfl)
    (he : starEach (e :: [.Name "bool" tp]) X.env = (false, eval e X.env) :: starEach [.Name "bool" tp] X.env := by rfl) (he2 : starEach [.Name "bool" tp] X.env = (false, eval (.Name "bool" tp) X.env) :: starEach [] X.env := by rfl) (hpl : (backTo pos (starEach [.Name "bool" tp] X.env)).any (·.1) = false := by rfl) :
    SE X W (.Call (.Name "isinstance" p) [e, .Name "bool" tp] [] pos) (gIsi none [.ty "bool"] F) := xIsiG "bool" bt_bool (by decide) (by decide) (by decide) ha hm hm2 hg hg2 he he2 hpl
theorem xIsi_str (ha : SE X W e F) (hm : X.mg "isinstance" = none) (hm2 : X.mg "str" = none) (hg : Gl X "isinstance" := by rfl) (hg2 : Gl X "str" := by rfl)
    (he : starEach (e :: [.Name "str" tp]) X.env = (false, eval e X.env) :: starEach [.Name "str" tp] X.env := by rfl) (he2 : starEach [.Name "str" tp] X.env = (false, eval (.Name "str" tp) X.env) :: starEach [] X.env := by rfl) (hpl : (backTo pos (starEach [.Name "str" tp] X.env)).any (·.1) = false := by rfl) :
    SE X W (.Call (.Name "isinstance" p) [e, .Name "str" tp] [] pos) (gIsi none [.ty "str"] F) := xIsiG "str" bt_str (by decide) (by decide) (by decide) ha hm hm2 hg hg2 he he2 hpl
theorem xIsi_tuple (ha : SE X W e F) (hm : X.mg "isinstance" = none) (hm2 : X.mg "tuple" = none) (hg : Gl X "isinstance" := by rfl) (hg2 : Gl X "tuple" := by rfl)
    (he : starEach (e :: [.Name "tuple" tp]) X.env = (false, eval e X.env) :: starEach [.Name "tuple" tp] X.env := by rfl) (he2 : starEach [.Name "tuple" tp] X.env = (false, eval (.Name "tuple" tp) X.env) :: starEach [] X.env := by rfl) (hpl : (backTo pos (starEach [.Name "tuple" tp] X.env)).any (·.1) = false := by rfl) :
    SE X W (.Call (.Name "isinstance" p) [e, .Name "tuple" tp] [] pos) (gIsi none [.ty "tuple"] F) := xIsiG "tuple" bt_tuple (by decide) (by decide) (by decide) ha hm hm2 hg hg2 he he2 hpl
theorem xIsi_list (ha : SE X W e F) (hm : X.mg "isinstance" = none) (hm2 : X.mg "list" = none) (hg : Gl X "isinstance" := by rfl) (hg2 : Gl X "list" := by rfl)
    (he : starEach (e :: [.Name "list" tp]) X.env = (false, eval e X.env) :: starEach [.Name "list" tp] X.env := by rfl) (he2 : starEach [.Name "list" tp] X.env = (false, eval (.Name "list" tp) X.env) :: starEach [] X.env := by rfl) (hpl : (backTo pos (starEach [.Name "list" tp] X.env)).any (·.1) = false := by rfl) :
    SE X W (.Call (.Name "isinstance" p) [e, .Name "list" tp] [] pos) (gIsi none [.ty "list"] F) := xIsiG "list" bt_list (by decide) (by decide) (by decide) ha hm hm2 hg hg2 he he2 hpl
theorem pa_consts {t1 t2 : Expr} {v1 v2 : V} (h1 : PE X t1 (tC v1)) (h2 : PE X t2 (tC v2)) (e1 : starEach [t1, t2] X.env = (false, eval t1 X.env) :: starEach [t2] X.env) (e2 : starEach [t2] X.env = (false, eval t2 X.env) :: starEach [] X.env) : PA X [t1, t2] (fun _ H Q => Q [v1, v2] H) := pa_cons h1 (pa_cons h2 pa_nil e2) e1
theorem xIsiT (n1 n2 : String) {x y : Str} {px py : Pos} {x1 : Nat} (hb : bootBuiltins x = some (.type n1)) (hb2 : bootBuiltins y = some (.type n2)) (hl : [Cl.ty n1, Cl.ty n2].all (fun cl => cl.okB none) = true) (hn : x ≠ "__name__") (hd : (x == ("__debug__" : Str)) = false) (hn2 : y ≠ "__name__") (hd2 : (y == ("__debug__" : Str)) = false)
    (ha : SE X W e F) (hm : X.mg "isinstance" = none) (hm1 : X.mg x = none) (hm2 : X.mg y = none) (hg : Gl X "isinstance" := by rfl) (hg1 : Gl X x := by rfl) (hg2 : Gl X y := by rfl)
    (h1 : starEach [.Name x px, .Name y py] X.env = (false, eval (.Name x px) X.env) :: starEach [.Name y py] X.env := by rfl) (h2 : starEach [.Name y py] X.env = (false, eval (.Name y py) X.env) :: starEach [] X.env := by rfl)
    (he : starEach (e :: [.Tuple [.Name x px, .Name y py] x1 tp]) X.env = (false, eval e X.env) :: starEach [.Tuple [.Name x px, .Name y py] x1 tp] X.env := by rfl) (he2 : starEach [.Tuple [.Name x px, .Name y py] x1 tp] X.env = (false, eval (.Tuple [.Name x px, .Name y py] x1 tp) X.env) :: starEach [] X.env := by rfl) (hpl : (backTo pos (starEach [.Tuple [.Name x px, .Name y py] x1 tp] X.env)).any (·.1) = false := by rfl) :
    SE X W (.Call (.Name "isinstance" p) [e, .Tuple [.Name x px, .Name y py] x1 tp] [] pos) (gIsi none [.ty n1, .ty n2] F) :=
  se_isiT (oc := none) (cls := [.ty n1, .ty n2]) (vs := [.ty n1, .ty n2]) (fun _ h => nomatch h) hl ha (pa_consts (pe_bltn hg1 hm1 hb rfl hn hd) (pe_bltn hg2 hm2 hb2 rfl hn2 hd2) h1 h2) (.cons (.ty n1) (.cons (.ty n2) .nil)) (by show 2 ≤ 1000; omega) hg hm he he2 hpl
end
section
variable {X : Cx} {W : WX} {pos p : Pos} {e : Expr} {F : EV → M D} {x y : Str}
theorem sMov (io il : Nat) {px py apos bpos cpos : Pos} (h : SE X W e F) (hi : X.N[io]? = some x := by rfl) (hi2 : X.N[il]? = some y := by rfl) (hv : Vis X.env.scope x := by first | exact Or.inl rfl | exact Or.inr (Or.inl rfl)) (hv2 : Vis X.env.scope y := by first | exact Or.inl rfl | exact Or.inr (Or.inl rfl))
    (hd : (x == ("__debug__" : Str)) = false := by decide) (hcd : (x == ("__classdict__" : Str)) = false := by decide) (hd2 : (y == ("__debug__" : Str)) = false := by decide) (hcd2 : (y == ("__classdict__" : Str)) = false := by decide)
    (k : ∀ {tx ty te : L2.TE}, PE X (.Name x px) tx → PE X (.Name y py) ty → PE X e te → PS X (.Expr (.Call (.Attribute (.Name x px) "append" apos) [.Call (.Attribute (.Name y py) "pop" bpos) [e] [] cpos] [] pos) p) (tDrop (tBM X.K "list" rAppend tx (tCons (tBM X.K "list" rPopAt ty (tCons te tNil)) tNil))) := by
      exact fun hx hy he => ps_expr (pe_bm PySem.F.plainAttrs_list PySem.F.slot_list_append PySem.F.type_list_append mt_append hx (pa_cons (pe_bm PySem.F.plainAttrs_list PySem.F.slot_list_pop PySem.F.type_list_pop mt_popAt hy (pa_cons he pa_nil)) pa_nil))) :
    SS1 X W (.Expr (.Call (.Attribute (.Name x px) "append" apos) [.Call (.Attribute (.Name y py) "pop" bpos) [e] [] cpos] [] pos) p) (gMov io il F) := ss_mov (k (pv io hi hv hd hcd) (pv il hi2 hv2 hd2 hcd2) h.pe)
end
def dNeg : D → M D
  | .int i => pure (.int (-i))
  | _ => M.bad
section
variable {X : Cx} {W : WX} {pos p : Pos} {a : Expr} {F : EV → M D}
theorem vr_neg {K : PySem.W.Frag} : VR1 K (rU fun i => .int (-i)) dNeg := by
  intro _ st S H m x dx Q E cv rx o
  cases rx <;> try exact o.elim
  exact ⟨_, rfl, out_pure cv o (.int _)⟩
theorem xNeg (ha : SE X W a F) : SE X W (.UnaryOp .USub a pos) (f1 dNeg F) := se_un dNeg un_neg vr_neg ha
end
end Den
set_option Elab.async false
set_option linter.all false
set_option maxRecDepth 100000
set_option maxHeartbeats 4000000
namespace Den
open PySem PySem.Spec PyProof.Rows L2
/-- a getter by its function -/
structure Prp (P : Program) (w : World) (K : PySem.W.Frag) (mg : Str → Option Value) (base : Heap) (k : Nat) (c f : Str) (ps : List Str) (g : List D → M D) : Prop where
  ex : ∃ (p fa : Addr) (fd : FuncData), PropOf K (He.ga K c) f p fa ∧ Binds K fd ps [] ∧ FnOk P w K mg base (L2N.CX P w) k fa fd ps (spOf K g)
  cls : Cls K (He.ga K c)
structure Fld (K : PySem.W.Frag) (c f : Str) : Prop where
  cls : Cls K (He.ga K c)
  no : NoAttr K (He.ga K c) f
/-- a class that makes its instances by __init__ -/
structure Mkr (P : Program) (w : World) (K : PySem.W.Frag) (mg : Str → Option Value) (base : Heap) (k : Nat) (x q : Str) (params : Arguments) (body : List Stmt) (scope : Scope) (kws : List (Str × V)) (ps : List Str) (g : List D → M (List (Str × D))) : Prop where
  ex : ∃ (fa : Addr) (fd : FuncData), mg x = some (.ref (He.ga K x)) ∧ Mk K (He.ga K x) fa ∧ FunD K "__init__" q params body scope [] kws fa fd ∧ FnOk P w K mg base (L2N.CX P w) k fa fd ps (spIni K x g)
section
variable {X : Cx} {W : WX} {pos p tp : Pos} {e a b : Expr} {es : List Expr} {F G : EV → M D} {A Ak : EV → M (List D)} {c f x q : Str} {k : Nat} {ps : List Str} {g : List D → M D} {kws : List Keyword} {params : Arguments} {body : List Stmt} {scope : Scope}
theorem xProp (pc : Prp X.prog X.w X.K X.mg X.base k c f ps g) (hr : Room (k + 1) X.A) (h : SE X W e F) (hab : attributeBase e f X.env (eval e X.env) = eval e X.env := by rfl) : SE X W (.Attribute e f pos) (gProp c g F) := by
  obtain ⟨p, fa, fd, h1, h2, h3⟩ := pc.ex
  exact se_prop pc.cls h1 h3 hr h2 h hab
theorem xFld (fc : Fld X.K c f) (h : SE X W e F) (hb : attributeBase e f X.env (eval e X.env) = eval e X.env := by rfl) : SE X W (.Attribute e f pos) (gFld c f F) := se_fld fc.cls fc.no h hb
theorem xIsiO (hc : InstC X.K c) (ha : SE X W e F) (hm : X.mg "isinstance" = none) (hm2 : X.mg c = some (.ref (He.ga X.K c))) (hg : Gl X "isinstance" := by rfl) (hg2 : Gl X c := by rfl) (hd : (c == ("__debug__" : Str)) = false := by decide)
    (he : starEach (e :: [.Name c tp]) X.env = (false, eval e X.env) :: starEach [.Name c tp] X.env := by rfl) (he2 : starEach [.Name c tp] X.env = (false, eval (.Name c tp) X.env) :: starEach [] X.env := by rfl) (hpl : (backTo pos (starEach [.Name c tp] X.env)).any (·.1) = false := by rfl) :
    SE X W (.Call (.Name "isinstance" p) [e, .Name c tp] [] pos) (gIsi (some c) [.own c] F) :=
  se_isi (oc := some c) (cl := .own c) (vc := .ref (He.ga X.K c)) (fun d h => by cases h; exact hc) (by unfold Cl.okB; simp) ha (pe_glob hg2 hm2 rfl hd) (.own _) hg hm he he2 hpl
theorem kNil : SK X W [] aN := sk_nil
theorem kCons {nm : Option Str} {kpos : Pos} {kws : List Keyword} (ha : SE X W e F) (hr : SK X W kws A) : SK X W (⟨nm, e, kpos⟩ :: kws) (aC F A) := sk_cons ha hr
/-- C(e, .., k = v, ..), __init__ with keyword-only parameters, those of ms left out -/
theorem xMake {kw0 : List (Str × V)} {gi : List D → M (List (Str × D))} (mc : Mkr X.prog X.w X.K X.mg X.base k x q params body scope kw0 ps gi) (n : Nat) (ks : List Str) (pl : List Nat) (ms : List (Str × V)) (cd : List D) (hk : kw0 ≠ []) (hms : ∀ z ∈ ms, z ∈ kw0) (hcs : Paired CV (ms.map (·.2)) cd)
    (hb : ∀ (D : Addr) (doc pm : Value) (an : Option Addr) (cdv ct : Value) (us mv ws : List Value), us.length = n + 1 → mv.length = ms.length → ws.length = ks.length →
      KwChain D ((ms.map (·.1)).zip mv) (bindArgs (PySem.W.fnOf "__init__" q params body scope .none (.ref D) doc pm an cdv ct) ⟨us, ks.zip ws⟩) (ps.zip (pick (0 :: pl.map (· + 1)) (us ++ (ws ++ mv)))))
    (hr : Room (k + 1) X.A) (ha : SA X W (e :: es) A) (hkw : SK X W kws Ak) (hg : Gl X x := by rfl) (hall : (backToKw pos (keywordEach kws X.env)).all (·.1.isSome) = true := by rfl) (hks : (backToKw pos (keywordEach kws X.env)).filterMap (·.1) = ks := by rfl) (hdb : (x == ("__debug__" : Str)) = false := by decide)
    (he : starEach (e :: es) X.env = (false, eval e X.env) :: starEach es X.env := by rfl) (hpl : ((backTo pos (starEach (e :: es) X.env)).any (·.1) || (backToKw pos (keywordEach kws X.env)).any (·.1.isNone)) = false := by rfl) :
    SE X W (.Call (.Name x p) (e :: es) kws pos) (gCallK (fun ds => noErr (do let fs ← gi ds; pure (.obj x fs))) A Ak n ks.length pl cd) := by
  obtain ⟨fa, fd, h1, h2, h3, h4⟩ := mc.ex
  exact se_make h2 h4 hr hg h1 (kb_kwo h3 (n + 1) ks ms (0 :: pl.map (· + 1)) hk hms hb) hcs ha hkw hall hks hdb he hpl
/-- list(x) -/
def dList : List D → M (List D)
  | [.lst xs] => pure xs
  | [.tup xs] => pure xs
  | [.scr ns] => pure (ns.map .int)
  | _ => M.bad
def lG (g : List D → M (List D)) (A : EV → M (List D)) : EV → M (List D) := fun ρ => do let ds ← A ρ; g ds
theorem lList (hm : X.mg "list" = none) (ha : SA X W (e :: es) A) (hg : Gl X "list" := by rfl) (he : starEach (e :: es) X.env = (false, eval e X.env) :: starEach es X.env := by rfl) (hpl : (backTo pos (starEach es X.env)).any (·.1) = false := by rfl) :
    SF X W (.Call (.Name "list" p) (e :: es) [] pos) (lG dList A) := by
  refine .imp (pe_callTy call_list_of hg hm bt_list ha.pa (by decide) (by decide) he hpl) fun σ H Q ⟨st, S, ρ, m, cv, er, o⟩ => ?_
  refine TAD.bindF (G := fun ds _ => dList ds) cv er o fun vs ds m1 H1 c1 cv1 er1 r1 o1 => ?_
  match ds, r1, o1 with
  | [.lst xs], r1, o1 =>
    obtain ⟨v, rfl, rv⟩ := repL1 r1
    cases rv with
    | lst hn hs rr => exact ⟨_, _, rfl, .inl (SqL.of hs), out_new cv1 o1 rr⟩
  | [.tup xs], r1, o1 =>
    obtain ⟨v, rfl, rv⟩ := repL1 r1
    cases rv with
    | tup hs rr => exact ⟨_, _, rfl, .inr hs.sq, out_new cv1 o1 rr⟩
  | [.scr ns], r1, o1 =>
    obtain ⟨v, rfl, rv⟩ := repL1 r1
    cases rv with
    | scr hs => exact ⟨_, _, rfl, .inl hs.sq, out_new cv1 o1 (repI _)⟩
  | [.non], _, o1 => exact o1.elim
  | [.bl _], _, o1 => exact o1.elim
  | [.int _], _, o1 => exact o1.elim
  | [.str _], _, o1 => exact o1.elim
  | [.obj _ _], _, o1 => exact o1.elim
  | [.sto], _, o1 => exact o1.elim
  | [], _, o1 => exact o1.elim
  | d :: _ :: _, _, o1 => cases d <;> exact o1.elim
end
theorem ss_bad {X : Cx} {W : WX} {ss : List Stmt} : SS X W ss gBad := ⟨PSs.imp pss_never fun Dn σ H ⟨st, S, ρ, m, H0, k, e, o⟩ => o⟩
section
variable {X : Cx} {W : WX} {pos : Pos} {e : Expr} {F : EV → M D} {x c f : Str}
theorem sFldS (i : Nat) {px p' : Pos} (fc : Fld X.K c f) (h : SE X W e F) (hi : X.N[i]? = some x := by rfl) (hv : Vis X.env.scope x := by first | exact Or.inl rfl | exact Or.inr (Or.inl rfl)) (hd : (x == ("__debug__" : Str)) = false := by decide) (hcd : (x == ("__classdict__" : Str)) = false := by decide)
    (hs : swapsWith e (some (.Attribute (.Name x px) f p')) pos.line X.env = pure false := by rfl) : SS1 X W (.Assign [.Attribute (.Name x px) f p'] e pos) (gFldSet i c f F) := ss_fld fc.cls fc.no (ps_fld (pv i hi hv hd hcd) h.pe hs)
end
end Den
set_option Elab.async false
set_option linter.all false
set_option maxRecDepth 100000
set_option maxHeartbeats 4000000
namespace Den
open PySem PySem.Spec PyProof.Rows L2
section
variable {X : Cx}
theorem pss_lock {sts : List Stmt} {t : L2.TS} (h : PSs X sts t) : PSs X sts (tLock t) := by
  refine ⟨fun pins s σ H D I hw => ?_⟩
  obtain ⟨d, u, hd, mu, hw⟩ := hw
  obtain ⟨od, I1⟩ := I.lock hd mu
  refine thn (h.run pins s σ _ _ I1 (hw od)) fun f s1 q => ?_
  cases f with
  | next => obtain ⟨σ', H', I2, e, q⟩ := q; exact ⟨σ', _, I2.unlock e (I.nofrz hd mu), q⟩
  | brk => obtain ⟨σ', H', I2, e, q⟩ := q; exact ⟨σ', _, I2.unlock e (I.nofrz hd mu), q⟩
  | cont => obtain ⟨σ', H', I2, e, q⟩ := q; exact ⟨σ', _, I2.unlock e (I.nofrz hd mu), q⟩
  | ret v => obtain ⟨x, σ', H', I2, r, e, q⟩ := q; exact ⟨x, σ', _, I2.unlock e (I.nofrz hd mu), r, q⟩
end
/-- what is promised of a law -/
def spLaw (K : PySem.W.Frag) : Sp := fun vs H Q _ => ∃ (a : Addr) (ns : List Int), vs = [.ref a] ∧ ns.length ≤ 63 ∧ Only H ∧ SqL K H a (ns.map V.int) ∧ ∀ H', Q (.bl true) H'
theorem repInts {K : PySem.W.Frag} {st : Stx xi} {S : Addr → Prop} {H : Hp} : ∀ {ns : List Int} {vs : List V}, RepL K st S H vs (ns.map D.int) → vs = ns.map V.int
  | [], _, .nil => rfl
  | n :: ns, _, .cons r t => by
    cases r
    rw [repInts t]; rfl
def sv0 (n i : Nat) (ns : List Int) : SV := (Sl.va (.scr ns) :: List.replicate (n - 1) .no).set i (.va .sto)
def ev0 (n : Nat) (ns : List Int) : EV := some (.scr ns) :: List.replicate (n - 1) none
theorem fn_law {P : Program} {w : World} {K : PySem.W.Frag} {mg : Str → Option Value} {base : Heap} {params : Arguments} {body rest : List Stmt} {s0 : Stmt} {scope : Scope} {f : Addr} {fd : FuncData} {N : List Str} {k i : Nat} {G0 : EV → M D} {G : SV → M Fl} {cs : List Int → List Int} {xs : List Int}
    (F : FunD K "law" "law" params body scope [] [] f fd) (Sc : FnScope N ["script"] scope) (hb : body = s0 :: rest) (hi : 0 < i) (hN : i < N.length)
    (h0 : ∀ (cdv : Value) (A : Around) (outer : List Env) (s : Shared) (H : Hp) (E : XK), Room k (A.deeper (envOfC "law" scope s.heap.objs.size f cdv)) → PS (cxOf (L2N.CX P w) P w K mg base N "law" scope f cdv A outer s H E) s0 (tAsg (TE (cxOf (L2N.CX P w) P w K mg base N "law" scope f cdv A outer s H E).xi K (wE E) G0) (gName i)))
    (hr : ∀ (cdv : Value) (A : Around) (outer : List Env) (s : Shared) (H : Hp) (E : XK), Room k (A.deeper (envOfC "law" scope s.heap.objs.size f cdv)) → SS (cxOf (L2N.CX P w) P w K mg base N "law" scope f cdv A outer s H E) (wE E) rest G)
    (hst : ∀ (ns : List Int) (m : SM), ns.length ≤ 63 → G0 (ev0 N.length ns) m = .ok (.lst (.lst ((cs ns).map .int) :: xs.map .int)) m)
    (hG : ∀ ns : List Int, ns.length ≤ 63 → ∃ m', G (sv0 N.length i ns) ⟨cs ns, xs⟩ = .ok (.rt (.bl true)) m') :
    FnOk P w K mg base (L2N.CX P w) (k + 1) f fd ["script"] (spLaw K) := by
  subst hb
  refine F.ok Sc (fun vs H Q E ⟨a, ns, e, _⟩ => by rw [e]; rfl) fun cdv A outer s H vs Q E hR ⟨a, ns, e, hl, hO, hS, hQ⟩ => ⟨_, pss_cons (by have z := h0 cdv A outer s H E hR; rw [xi_room (X := cxOf (L2N.CX P w) P w K mg base N "law" scope f cdv A outer s H E) hR] at z; exact z) (pss_lock (by have z := (hr cdv A outer s H E hR).ps; rw [xi_room (X := cxOf (L2N.CX P w) P w K mg base N "law" scope f cdv A outer s H E) hR] at z; exact z)), ?_⟩
  subst e
  have fz : Fz K H a (ns.map V.int) := Fz.of hO hS
  have hst' := hst ns ⟨[], []⟩ hl
  have stEq : L2.start N [V.ref a] = some (.ref a) :: List.replicate (N.length - 1) none := rfl
  refine ⟨⟨none⟩, fun _ => False, ev0 N.length ns, ⟨[], []⟩, ⟨fun _ z => z.elim, fun _ _ z => nomatch z⟩, ⟨fun j d h => ?_⟩, ?_⟩
  · rw [stEq]
    cases j with
    | zero =>
      cases h
      exact ⟨.ref a, rfl, .scr fz⟩
    | succ j =>
      have h' : (List.replicate (N.length - 1) (none : Option D))[j]? = some (some d) := h
      have := List.mem_of_getElem? h'
      cases (List.mem_replicate.mp this).2
  · rw [hst']
    intro v H1 c1 cv1 r1
    cases r1 with
    | lst n1 h1 rr =>
    rename_i a1 vs1
    cases rr with
    | cons rc rx =>
    rename_i vc vx
    have ex := repInts rx
    subst ex
    cases rc with
    | lst n2 h2 rcc =>
    rename_i c vcs
    have ec := repInts rcc
    subst ec
    have ne : a1 ≠ c := fun z => by
      subst z
      rw [h1] at h2
      cases hcs : cs ns with
      | nil => rw [hcs] at h2; cases h2
      | cons q qs => rw [hcs] at h2; cases h2
    refine ⟨c, _, h2, trivial, fun od => ?_⟩
    have fz2 : Fz K (upd H1 c (.frz od (.lst ((cs ns).map V.int)))) a (ns.map V.int) := by
      rcases fz with ⟨o, z⟩ | z
      · have z1 : H1 a = some (.frz o (.lst (ns.map V.int))) := c1.keep z (.inl rfl)
        have na : a ≠ c := fun q => by rw [q, h2] at z1; cases z1
        exact .inl ⟨o, by rw [upd_ne na]; exact z1⟩
      · exact .inr z
    have at1 : (upd H1 c (.frz od (.lst ((cs ns).map V.int)))) a1 = some (.lst (.ref c :: xs.map V.int)) := by rw [upd_ne ne]; exact h1
    have cv2 : Cov K (⟨some (a1, c)⟩ : Stx none) (fun b => b = a1) (upd H1 c (.frz od (.lst ((cs ns).map V.int)))) ⟨cs ns, xs⟩ := by
      refine ⟨fun b z => by rw [z, at1]; simp, fun b d z => ?_⟩
      cases z
      exact ⟨rfl, at1, .inl ⟨od, upd_same⟩⟩
    have noOwn : ∀ j b, ¬ OwnAt (sv0 N.length i ns) ((L2.start N [V.ref a]).set i (some (.ref a1))) j b := fun j b ⟨⟨sl, g1, g2⟩, _⟩ => by
      have hm := List.mem_of_getElem? g1
      rcases List.mem_or_eq_of_mem_set hm with hm | hm
      · rcases List.mem_cons.mp hm with hm | hm
        · rw [hm] at g2; cases g2
        · rw [(List.mem_replicate.mp hm).2] at g2; cases g2
      · rw [hm] at g2; cases g2
    have len1 : (Sl.va (.scr ns) :: List.replicate (N.length - 1) Sl.no).length = N.length := by simp; omega
    have atv : ∀ (j : Nat) (sl : Sl), (sv0 N.length i ns)[j]? = some sl → (j = i ∧ sl = .va .sto) ∨ (j = 0 ∧ sl = .va (.scr ns)) ∨ sl = .no := fun j sl g => by
      unfold sv0 at g
      by_cases hj : j = i
      · subst hj
        rw [List.getElem?_set_self (by rw [len1]; exact hN)] at g
        exact .inl ⟨rfl, (Option.some.inj g).symm⟩
      · rw [List.getElem?_set_ne (Ne.symm hj)] at g
        cases j with
        | zero => exact .inr (.inl ⟨rfl, (Option.some.inj g).symm⟩)
        | succ j => exact .inr (.inr (List.mem_replicate.mp (List.mem_of_getElem? (show (List.replicate (N.length - 1) Sl.no)[j]? = some sl from g))).2)
    have ee : EnvS K (⟨some (a1, c)⟩ : Stx none) (fun b => b = a1) (upd H1 c (.frz od (.lst ((cs ns).map V.int)))) (upd H1 c (.frz od (.lst ((cs ns).map V.int)))) ((L2.start N [V.ref a]).set i (some (.ref a1))) (sv0 N.length i ns) := by
      refine ⟨fun j d g => ?_, fun j ys g => ?_, fun j cn fs g => ?_, fun j l b o _ => (noOwn j b o).elim, ?_⟩
      · rcases atv j _ g with ⟨e1, e2⟩ | ⟨e1, e2⟩ | e2
        · cases e2
          subst e1
          refine ⟨.ref a1, List.getElem?_set_self ?_, .sto rfl⟩
          rw [stEq]; simp; omega
        · cases e2
          subst e1
          refine ⟨.ref a, ?_, .scr fz2⟩
          rw [List.getElem?_set_ne (by omega), stEq]; rfl
        · cases e2
      · rcases atv j _ g with ⟨_, e2⟩ | ⟨_, e2⟩ | e2 <;> cases e2
      · rcases atv j _ g with ⟨_, e2⟩ | ⟨_, e2⟩ | e2 <;> cases e2
      · rw [List.length_set, stEq]
        unfold sv0
        simp
    refine ⟨⟨some (a1, c)⟩, fun b => b = a1, sv0 N.length i ns, ⟨cs ns, xs⟩, _, ⟨cv2, cv2.dom, Chg.refl _⟩, ee, ?_⟩
    obtain ⟨m', hG'⟩ := hG ns hl
    rw [hG']
    intro v Hf kf rf
    cases rf
    exact ⟨kf.chg.keep upd_same (.inl rfl), hQ _⟩
end Den
set_option Elab.async false
set_option linter.all false
set_option maxRecDepth 100000
set_option maxHeartbeats 4000000
namespace Den
open PySem PySem.Spec PyProof.Rows L2
section
variable {X : Cx} {W : WX} {pos : Pos} {e : Expr} {F : EV → M D}
def gExp (F : EV → M D) : SV → M Fl := fun ρ => exB (F (vw [] ρ)) ρ fun _ => pure (.nx ρ)
theorem sExp (h : SE X W e F) (hs : swapsWith e none pos.line X.env = pure false := by rfl) : SS1 X W (.Expr e pos) (gExp F) :=
  ⟨PS.imp (ps_expr h.pe hs) fun Dn σ H ⟨st, S, ρ, m, H0, k, e, o⟩ => TE.stm (mk := []) k e o fun v d m1 H1 c1 k1 cv1 e1 r1 o1 => o1 σ H1 k1 e1 Pers.refl⟩
end
end Den
set_option Elab.async false
set_option linter.all false
set_option maxRecDepth 100000
set_option maxHeartbeats 4000000
namespace Den
open PySem PySem.Spec PyProof.Rows L2
section
variable {X : Cx} {e : Expr} {es : List Expr} {ta : L2.TA} {p pos : Pos}
/-- its object is new, its context is None -/
theorem pmk_new {x : Str} {C fI : Addr} {k : Nat} {fd : FuncData} {ps : List Str} {sp : Sp} (T : OexC X.K C) (iC : PySem.W.findIn X.K (.ref C) "__init__" = some (some (.ref fI))) (tI : PySem.W.typeIn X.K (.ref fI) = some (.type "function"))
    (Fn : FnOk X.prog X.w X.K X.mg X.base (L2N.CX X.prog X.w) k fI fd ps sp) (hr : Room (k + 1) X.A) (hb : Binds X.K fd ps []) (hg : Gl X x) (hm : X.mg x = some (.ref C)) (ha : PA X (e :: es) ta)
    (hdb : (x == ("__debug__" : Str)) = false) (he : starEach (e :: es) X.env = (false, eval e X.env) :: starEach es X.env) (hpl : (backTo pos (starEach es X.env)).any (·.1) = false) :
    L2N.PMk X (.Call (.Name x p) (e :: es) [] pos) (tMkO C sp [] ta) := by
  intro pins s σ H Q I h
  obtain ⟨_, _, _, _, bm, _, _, _, _, _, _, _, _, _, _, hC, hbm⟩ := T.cls
  apply wpAny_Call_Name_kw
  apply ld_glob I hg hm _ hdb
  refine PySem.W.callWith_K (h₀ := X.base) I.ok.mod.kin T.kC (thn (ha.run pos pins s σ H _ I h) ?_) he hpl
  rintro us ⟨hp, g, dr, tk, os⟩ ⟨vs, H1, I1, r1, hz, q1⟩
  refine ⟨I1.kIn, ?_⟩
  have low : hp.objs.size ≤ hp.objs.size + 1 := Nat.le_succ _
  generalize hh2 : (hp.push (PySem.W.kdv_tup us)).push (PySem.HandSPX.excO C hp.objs.size) = hp2
  have grow : ∀ b o, hp.get? b = some o → hp2.get? b = some o := fun b o z => by
    subst hh2
    exact Heap.get?_push_of_some _ (Heap.get?_push_of_some _ z)
  have there : hp2.get? (hp.objs.size + 1) = some (PySem.HandSPX.excO C hp.objs.size) := by
    subst hh2
    heap_get
  have J := I1.laid (t' := tk) (a := hp.objs.size + 1) (o := exo (hp.objs.size + 1) C none) (h' := hp2) grow low (exo_ok there)
  have q2 := q1 (hp.objs.size + 1) (I1.hok.fresh low)
  have rr : Vals (V.ref (hp.objs.size + 1) :: (vs ++ [])) (Value.ref (hp.objs.size + 1) :: us) := .cons rfl (by rw [List.append_nil]; exact r1)
  have ll : (Value.ref (hp.objs.size + 1) :: us).length = ps.length := rr.length.symm.trans (Fn.len _ _ _ _ q2)
  have few : us.length ≤ sizeLine := by
    have := r1.length
    rw [sizeLine_eq]
    omega
  have bd := hb _ (Value.ref (hp.objs.size + 1) :: us) J.kIn (by simpa using ll)
  rw [List.append_nil] at bd
  apply wpAny_call
  have run := Fn.run _ X.stack _ _ ⟨Value.ref (hp.objs.size + 1) :: us, []⟩ _ _ _ (fun _ _ _ => False) (hr.make C us []) (J.env0.make C us []) bd rr q2
  have C1 := I1.kIn _ _ hC
  have C2 := PySem.W.looks_findIn (M := model X.prog X.w) I1.kIn iC
  refine PySem.HandSPX.call_own F.excBase_ValueError (fun Y => PySem.HandSPX.refsVE_contains Y bm hbm) C1 C2 (fun self => PySem.W.bind_fn I1.kIn self tI) few ?_
  subst hh2
  refine codeAny_mono run fun res s' z => ?_
  match res, z with
  | .error ev, z => exact passL pins σ _ _ ev s' J z
  | .ok .next, z => exact z.elim
  | .ok .brk, z => exact z.elim
  | .ok .cont, z => exact z.elim
  | .ok (.ret u), z =>
    obtain ⟨v, H2, os2, bare2, un2, hok2, rv, ev, d, fs, ea, ed, nd, q3⟩ := z
    subst ev
    obtain ⟨h2, g2, d2, t2, os'⟩ := s'
    refine ⟨rv, ?_⟩
    obtain ⟨t0, G, J2, kG, ge, hoe, na⟩ := mk_end0 (d2 := d2) (t2 := t2) I1 low grow un2 hok2 os2 bare2 ea ed nd
    exact ⟨_, _, _, ⟨G, g2, d2, t2, os'⟩, _, .ref C, some d, rfl, J2, kG, ge, hoe, ⟨rfl, rfl, fun vs e => by cases e; rfl⟩, rfl, rfl, na, rfl, bare2, raises_own T.exC T.tyC, q3⟩
end
def kept {α : Type} (names : List Str) (us : List α) : List (Str × α) := (names.zip us).reverse
/-- what such an __init__ promises -/
def spOex (K : PySem.W.Frag) (c : Str) (names : List Str) : Sp := fun vs H Q _ => ∃ (a : Addr) (us : List V), vs = .ref a :: us ∧ us.length = names.length ∧ H a = some (exo a (He.ga K c) none) ∧
  ∀ dx, H dx = none → dx ≠ a → Q .non (upd (upd H dx (exd dx (kept names us))) a (exo a (He.ga K c) (some dx)))
theorem repF_app {K : PySem.W.Frag} {st : Stx xi} {S : Addr → Prop} {H : Hp} {v : List (Str × V)} {d : List (Str × D)} (t : RepF K st S H v d) : ∀ {vs : List (Str × V)} {ds : List (Str × D)}, RepF K st S H vs ds → RepF K st S H (vs ++ v) (ds ++ d)
  | _, _, .nil => t
  | _, _, .cons r s => .cons r (repF_app t s)
theorem repF_rev {K : PySem.W.Frag} {st : Stx xi} {S : Addr → Prop} {H : Hp} : ∀ {vs : List (Str × V)} {ds : List (Str × D)}, RepF K st S H vs ds → RepF K st S H vs.reverse ds.reverse
  | _, _, .nil => .nil
  | _, _, .cons r s => by
    rw [List.reverse_cons, List.reverse_cons]
    exact repF_app (.cons r .nil) (repF_rev s)
theorem repF_zip {K : PySem.W.Frag} {st : Stx xi} {S : Addr → Prop} {H : Hp} : ∀ {names : List Str} {vs : List V} {ds : List D}, RepL K st S H vs ds → RepF K st S H (names.zip vs) (names.zip ds)
  | [], _, _, _ => by rw [List.zip_nil_left, List.zip_nil_left]; exact .nil
  | _ :: _, _, _, .nil => by rw [List.zip_nil_right, List.zip_nil_right]; exact .nil
  | _ :: _, _, _, .cons r t => .cons r (repF_zip t)
theorem repF_kept {K : PySem.W.Frag} {st : Stx xi} {S : Addr → Prop} {H : Hp} {names : List Str} {vs : List V} {ds : List D} (r : RepL K st S H vs ds) : RepF K st S H (kept names vs) (kept names ds) := repF_rev (repF_zip r)
/-- C(..) by name: its class, its __init__ -/
structure Exn (P : Program) (w : World) (K : PySem.W.Frag) (mg : Str → Option Value) (base : Heap) (k : Nat) (c : Str) (names ps : List Str) : Prop where
  ex : ∃ (fI : Addr) (fd : FuncData), mg c = some (.ref (He.ga K c)) ∧ OexC K (He.ga K c) ∧ PySem.W.findIn K (.ref (He.ga K c)) "__init__" = some (some (.ref fI)) ∧ PySem.W.typeIn K (.ref fI) = some (.type "function") ∧ Binds K fd ps [] ∧ FnOk P w K mg base (L2N.CX P w) k fI fd ps (spOex K c names)
section
variable {X : Cx} {W : WX} {pos p pos' : Pos} {e : Expr} {es : List Expr} {A : EV → M (List D)} {c : Str} {k : Nat} {names ps : List Str}
def gRaise (c : Str) (names : List Str) (A : EV → M (List D)) : SV → M Fl := fun ρ => exB (A (vw [] ρ)) ρ fun ds => do
  need (decide (ds.length = names.length) && decide (names.length ≤ 100))
  pure (.ex c (kept names ds) ρ)
theorem sRaise (x : Exn X.prog X.w X.K X.mg X.base k c names ps) (tk : Takes X W) (hc : X.calm = true) (hr : Room (k + 1) X.A) (ha : SA X W (e :: es) A) (hg : Gl X c := by rfl)
    (hdb : (c == ("__debug__" : Str)) = false := by decide) (he : starEach (e :: es) X.env = (false, eval e X.env) :: starEach es X.env := by rfl) (hpl : (backTo pos (starEach es X.env)).any (·.1) = false := by rfl) :
    SS1 X W (.Raise (some (.Call (.Name c p) (e :: es) [] pos)) none pos') (gRaise c names A) := by
  obtain ⟨fI, fd, h1, h2, h3, h4, h5, h6⟩ := x.ex
  refine ⟨PS.imp (L2N.ps_raise hc tk (pmk_new h2 h3 h4 h6 hr h5 hg h1 ha.pa hdb he hpl)) fun Dn σ H ⟨st, S, ρ, m, H0, kk, ee, o⟩ => ?_⟩
  refine ⟨st, _, vw [] ρ, m, kk.view ee [], ee.view kk.dom0 [], ?_⟩
  unfold gRaise at o
  rw [exB_run] at o
  cases q : A (vw [] ρ) m with
  | bad => rw [q] at o; exact o.elim
  | err cn fs m1 =>
    rw [q] at o
    exact fun dd fv H1 c1 cv g1 g2 r => o dd fv σ H1 (kk.after c1 cv) (ee.after kk c1) g1 (kk.chg.free g2) (r.mono (B := noB) (Chg.refl H1) (fun _ z => z.elim) fun a z => .inl z)
  | ok ds m1 =>
    rw [q] at o
    intro vs H1 c1 cv r1
    obtain ⟨hl, o2⟩ := out_need (P := fun r => OutS X.K W st S H0 H σ ρ r Dn) (fun z => z) o
    obtain ⟨hl1, hl2⟩ := Bool.and_eq_true_iff.mp hl
    have hl1 := of_decide_eq_true hl1
    have hl2 := of_decide_eq_true hl2
    have lv : vs.length = names.length := r1.length.trans hl1
    refine ⟨by omega, fun a na => ?_⟩
    refine ⟨a, vs, by rw [List.append_nil], lv, upd_same, fun dx nd ne => ?_⟩
    refine ⟨rfl, dx, kept names vs, upd_same, ?_, ?_, ?_⟩
    · rw [upd_ne ne, upd_same]
    · rw [upd_ne ne] at nd; exact nd
    · have nd' : H1 dx = none := by rw [upd_ne ne] at nd; exact nd
      have eH : upd (del (upd (upd (upd H1 a (exo a (He.ga X.K c) none)) dx (exd dx (kept names vs))) a (exo a (He.ga X.K c) (some dx))) a) dx (.xd (kept names vs)) = upd H1 dx (.xd (kept names vs)) := by
        funext b
        by_cases hb : b = dx
        · subst hb; rw [upd_same, upd_same]
        · rw [upd_ne hb, upd_ne hb]
          by_cases hba : b = a
          · subst hba; rw [del_same, na]
          · rw [del_ne hba, upd_ne hba, upd_ne hb, upd_ne hba]
      rw [eH]
      have k1 := kk.after c1 cv
      have e1 := ee.after kk c1
      have cn : Chg (atSt st) H1 (upd H1 dx (.xd (kept names vs))) := Chg.new nd'
      exact o2 dx (kept names vs) σ _ (k1.after cn (k1.cov.new nd')) (e1.after k1 cn) upd_same (k1.chg.free nd') (repF_kept (r1.mono (Chg.new (B := noB) nd') (fun _ z => z.elim) fun a z => .inl z))
end
end Den
set_option Elab.async false
set_option linter.all false
set_option maxRecDepth 100000
set_option maxHeartbeats 4000000
namespace Den
open PySem PySem.Spec PyProof.Rows L2
section
variable {P : Program} {w : World} {K : PySem.W.Frag} {mg : Str → Option Value} {base : Heap} {q c f1 f2 p1 p2 : Str} {params : Arguments} {body : List Stmt} {scope : Scope} {fI : Addr} {fd : FuncData} {k : Nat}
theorem fn_oex1 (F : FunD K "__init__" q params body scope [] [] fI fd) (Sc : FnScope ["self", p1] ["self", p1] scope) (T : OexC K (He.ga K c)) (no : PySem.W.findIn K (.ref (He.ga K c)) f1 = some none)
    (hb : ∀ (cdv : Value) (A : Around) (outer : List Env) (s : Shared) (H : Hp) (E : XK), PSs (cxOf (L2N.CX P w) P w K mg base ["self", p1] q scope fI cdv A outer s H E) body (tOst K f1 (tVar 0) (tVar 1))) :
    FnOk P w K mg base (L2N.CX P w) (k + 1) fI fd ["self", p1] (spOex K c [f1]) := by
  refine F.ok Sc (fun vs H Q E ⟨a, us, e, l, _⟩ => by rw [e, List.length_cons, l]; rfl) fun cdv A outer s H vs Q E hR ⟨a, us, e, l, ha, hq⟩ => ⟨_, hb cdv A outer s H E, ?_⟩
  match us, l with
  | [y], _ =>
    subst e
    exact ⟨y, rfl, .ref a, rfl, a, _, rfl, T, no, .inl ⟨ha, fun dx nd ne => hq dx nd ne⟩⟩
end
end Den
set_option Elab.async false
set_option linter.all false
set_option maxRecDepth 100000
set_option maxHeartbeats 4000000
namespace Den
open PySem PySem.Spec PyProof.Rows L2 He
def shapeB (C : Addr) (o : Obj) : Bool := match o.cls, o.data, o.slots.toList with
  | .type t, .cls cd, [_, _, _, _, some (.builtin n), _] => t == "type" && (n == "ValueError.__new__" && (cd.hasDict && (!cd.hasDel && (match cd.mro with
    | .ref C' :: bm => C' == C && PySem.HandSPX.refsVE bm
    | _ => false))))
  | _, _, _ => false
def oexB (K : PySem.W.Frag) (C : Addr) : Bool := (match K.lookup C with
  | some o => shapeB C o
  | none => false) && (eqO (PySem.W.findIn K (.ref C) "__setattr__") (some (some (.builtin "object.__setattr__"))) && (decide (PySem.W.subIn K (.ref C) (.type "BaseException") = some true) && (decide (PySem.W.typeIn K (.ref C) = some (.type "type")) && PySem.W.keepIn K (.ref C))))
theorem shape_ok {C : Addr} {o : Obj} (h : shapeB C o = true) : ∃ nm q N bs bm sn sub ab col dd k0 k1 k2 k3 k5, o = excClassObj nm q C N bs bm true sn sub ab col dd k0 k1 k2 k3 k5 "ValueError.__new__" ∧ PySem.HandSPX.refsVE bm = true := by
  obtain ⟨oc, od, dt, ⟨sl⟩⟩ := o
  unfold shapeB at h
  split at h
  · rename_i t cd k0 k1 k2 k3 n k5 e1 e2 e3
    simp only at e1 e2 e3
    subst e1 e2 e3
    simp only [Bool.and_eq_true, beq_iff_eq, Bool.not_eq_true'] at h
    obtain ⟨h1, h2, h3, h4, h5⟩ := h
    subst h1 h2
    obtain ⟨nm, bs, mro, ns, qn, hd, sn, sub, ab, col, del⟩ := cd
    dsimp only at h3 h4 h5
    subst h3 h4
    split at h5
    · rename_i C' bm
      simp only [Bool.and_eq_true, beq_iff_eq] at h5
      obtain ⟨h6, h7⟩ := h5
      subst h6
      exact ⟨nm, qn, ns, bs, bm, sn, sub, ab, col, od, k0, k1, k2, k3, k5, rfl, h7⟩
    · cases h5
  · cases h
theorem oexB_ok {K : PySem.W.Frag} {C : Addr} (h : oexB K C = true) : OexC K C := by
  obtain ⟨h1, h⟩ := ba h
  obtain ⟨h2, h⟩ := ba h
  obtain ⟨h3, h⟩ := ba h
  obtain ⟨h4, h5⟩ := ba h
  refine ⟨?_, eqO_ok h2, of_decide_eq_true h3, of_decide_eq_true h4, h5⟩
  generalize q : K.lookup C = r at h1
  match r, q, h1 with
  | none, _, h1 => cases h1
  | some o, q, h1 =>
    obtain ⟨nm, q', N, bs, bm, sn, sub, ab, col, dd, k0, k1, k2, k3, k5, e, hr⟩ := shape_ok h1
    exact ⟨nm, q', N, bs, bm, sn, sub, ab, col, dd, k0, k1, k2, k3, k5, by rw [e], hr⟩
end Den
set_option Elab.async false
set_option linter.all false
set_option maxRecDepth 100000
set_option maxHeartbeats 4000000
namespace Den
open PySem PySem.Spec PyProof.Rows L2
end Den
set_option Elab.async false
set_option linter.all false
set_option maxRecDepth 100000
set_option maxHeartbeats 4000000
namespace Den
open PySem PySem.Spec PyProof.Rows L2
/-- what an exception's class must say -/
def excB (K : PySem.W.Frag) (D : Addr) : Bool := xfB K D && (He.eqO (PySem.W.findIn K (.ref D) "__class__") (some (some (.builtin "object.__class__"))) && (He.eqO (PySem.W.specialIn K (.builtin "object.__class__") "__get__") (some (some (.builtin "getset_descriptor.__get__"))) && (decide (PySem.W.takesIn K (.builtin "object.__class__") = some true) && decide (PySem.W.mroIn K D (.type "object") = some true))))
section
variable {X : Cx} {W : WX} {pos p : Pos} {e : Expr} {F : EV → M D}
def gXa (cs : List Str) (f : Str) (F : EV → M D) : EV → M D := fun ρ => do
  let x ← F ρ
  match x with
  | .exc c fs => do
    need (cs.contains c)
    match fs.lookup f with
    | some d => pure d
    | none => M.bad
  | _ => M.bad
/-- the answers by class -/
def gIsx (tab : List (Str × Bool)) (F : EV → M D) : EV → M D := fun ρ => do
  let x ← F ρ
  match x with
  | .exc c _ => match tab.lookup c with
    | some b => pure (.bl b)
    | none => M.bad
  | _ => M.bad
end
end Den
set_option Elab.async false
set_option linter.all false
set_option maxRecDepth 100000
set_option maxHeartbeats 4000000
namespace Den
open PySem PySem.Spec PyProof.Rows L2
/-- no exception within -/
def D.noXs : List D → Bool
  | [] => true
  | d :: ds => (match d with
    | .tup xs => D.noXs xs
    | .lst xs => D.noXs xs
    | .obj _ _ => false
    | .exc _ _ => false
    | _ => true) && D.noXs ds
def D.noX (d : D) : Bool := D.noXs [d]
/-- the outcome of a suite that returns -/
def rtOf : Fl → M Fl
  | .rt d => do need d.noX; pure (.rt d)
  | _ => M.bad
end Den
set_option Elab.async false
set_option linter.all false
set_option maxRecDepth 100000
set_option maxHeartbeats 4000000
namespace Den
open PySem PySem.Spec PyProof.Rows L2
end Den
set_option Elab.async false
set_option linter.all false
set_option maxRecDepth 100000
set_option maxHeartbeats 4000000
namespace Den
open PySem PySem.Spec PyProof.Rows L2
structure CalF (P : Program) (w : World) (K : PySem.W.Frag) (mg : Str → Option Value) (base : Heap) (k : Nat) (x : Str) (params : Arguments) (body : List Stmt) (scope : Scope) (ps : List Str) (g : List D → M (List D)) : Prop where
  ex : ∃ (f : Addr) (fd : FuncData), mg x = some (.ref f) ∧ FunD K x x params body scope [] [] f fd ∧ Binds K fd ps [] ∧ FnOk P w K mg base (L2N.CX P w) k f fd ps (spFr K g)
def gRetO (z : Nat) : SV → M Fl := fun ρ => match ρ[z]? with
  | some (.ow xs) => pure (.rf xs)
  | _ => M.bad
def gRetF (L : EV → M (List D)) : SV → M Fl := fun ρ => exB (L (vw (allM ρ) ρ)) ρ fun ds => pure (.rf ds)
section
variable {X : Cx} {W : WX} {pos p : Pos} {e : Expr} {es : List Expr} {A : EV → M (List D)} {L : EV → M (List D)} {x : Str} {k : Nat} {params : Arguments} {body : List Stmt} {scope : Scope} {ps : List Str} {g : List D → M (List D)}
theorem lCall (c : CalF X.prog X.w X.K X.mg X.base k x params body scope ps g) (tk : Takes X W) (hr : Room k X.A) (ha : SA X W (e :: es) A) (hg : Gl X x := by rfl)
    (hdb : (x == ("__debug__" : Str)) = false := by decide) (he : starEach (e :: es) X.env = (false, eval e X.env) :: starEach es X.env := by rfl) (hpl : (backTo pos (starEach es X.env)).any (·.1) = false := by rfl) :
    SF X W (.Call (.Name x p) (e :: es) [] pos) (lG g A) := by
  obtain ⟨f, fd, h1, h2, h3, h4⟩ := c.ex
  refine .imp (pe_callS (E := WE W) h4 hr hg h1 h2.kp h3 (fun σ => passAt tk σ) ha.pa hdb he hpl) fun σ H Q h => ?_
  rw [xi_room hr] at h ⊢
  obtain ⟨st, S, ρ, m, cv, er, o⟩ := h
  exact TAD.bindF (G := fun ds _ => g ds) cv er o fun vs ds m1 H1 c1 cv1 er1 r1 o1 => ⟨st, S, ds, m1, cv1, r1, o1⟩
theorem sRetF (h : SF X W e L) : SS1 X W (.Return (some e) pos) (gRetF L) :=
  ⟨PS.imp (ps_ret h.pe) fun Dn σ H ⟨st, S, ρ, m, H0, k, e, o⟩ => TF.stm k e o fun q vs ds m1 H1 n1 c1 k1 e1 h1 r1 o1 => o1 q vs H1 (k.chg.free n1) k1 h1 (r1.mono (B := noB) (Chg.refl H1) (fun _ z => z.elim) fun a z => z.elim (fun y => .inl (.inl y)) .inr)⟩
end
end Den
set_option Elab.async false
set_option linter.all false
set_option maxRecDepth 100000
set_option maxHeartbeats 4000000
namespace Den
open PySem PySem.Spec PyProof.Rows L2
end Den
set_option Elab.async false
set_option linter.all false
set_option maxRecDepth 100000
set_option maxHeartbeats 4000000
namespace Den
open PySem PySem.Spec PyProof.Rows L2
/-- the handled exception stands first -/
structure Hd1 (X : Cx) (p : Addr × Obj) : Prop where
  hot : L2H.Hot1 X.A p
  pin : X.pn.head? = some p
theorem Hd1.xi {X : Cx} {p : Addr × Obj} (h : Hd1 X p) : X.xi = some p := by
  unfold L2.Cx.xi
  rw [h.hot.1]
  exact h.pin
theorem Hd1.mem {X : Cx} {p : Addr × Obj} (h : Hd1 X p) : p ∈ X.pn := List.mem_of_mem_head? h.pin
end Den
set_option Elab.async false
set_option linter.all false
set_option maxRecDepth 100000
set_option maxHeartbeats 4000000
namespace Den
open PySem PySem.Spec PyProof.Rows L2
/-- the block's context, the handled exception noted -/
abbrev blkX (X : Cx) (p : Addr × Obj) (s : Shared) (H : Hp) (scope : Scope) (ce : Env) (fp : List Addr) : Cx := { X.blk s H scope ce fp with pn := [p] }
section
variable {X : Cx} {p : Addr × Obj} {pins : List (Addr × Obj)} {σ τ : L2.St} {H H' : Hp} {s s' s0 : Shared} {scope : Scope} {ce : Env} {fp : List Addr}
theorem Hd1.blk (h : Hd1 X p) : Hd1 (blkX X p s H scope ce fp) p := ⟨h.hot, rfl⟩
end
end Den
set_option Elab.async false
set_option linter.all false
set_option maxRecDepth 100000
set_option maxHeartbeats 4000000
namespace Den
open PySem PySem.Spec PyProof.Rows L2
section
variable {X : Cx} {p : Addr × Obj} {W : WX} {pos : Pos} {tg : Expr}
theorem PIH.imp {e : Expr} {t t' : L2.TI} (h : L2H.PIH X tg e t) (i : ∀ σ H Q, t' σ H Q → t σ H Q) : L2H.PIH X tg e t' := ⟨fun pins s σ H Q I q => h.run pins s σ H Q I (i σ H Q q)⟩
end
end Den
set_option Elab.async false
set_option linter.all false
set_option maxRecDepth 100000
set_option maxHeartbeats 4000000
namespace Den
open PySem PySem.Spec PyProof.Rows L2
theorem Hd1.at {X : Cx} {p : Addr × Obj} {pins : List (Addr × Obj)} {σ : L2.St} {H : Hp} {s : Shared} (hd : Hd1 X p) (I : L2.Inv X pins σ H s) : HotX.HotAt X.A p.1 s.heap := by
  obtain ⟨h1, vs, h2, h3⟩ := hd.hot
  exact ⟨h1, p.2, vs, (I.pin p (List.mem_append_left _ hd.mem)).1, h2, h3⟩
end Den
set_option Elab.async false
set_option linter.all false
set_option maxRecDepth 100000
set_option maxHeartbeats 4000000
namespace Den
open PySem PySem.Spec PyProof.Rows L2
end Den
set_option Elab.async false
set_option linter.all false
set_option maxRecDepth 100000
set_option maxHeartbeats 4000000
namespace Den
open PySem PySem.Spec PyProof.Rows L2
end Den
set_option Elab.async false
set_option linter.all false
set_option maxRecDepth 100000
set_option maxHeartbeats 4000000
namespace Den
open PySem PySem.Spec PyProof.Rows L2 RZ
/-- an iterator's kind, over a sequence's kind -/
structure SqIt (it : Heap → Addr → Addr → Nat → Prop) (sq : Heap → Addr → Array Value → Prop) : Prop where
  item : ∀ {prog : Program} {w : World} {A : Around} {E : Value → Shared → Prop} {s : Shared} {i l : Addr} {k : Nat} {items : Array Value} {x : Value} {Q : Value → Shared → Prop}, it s.heap i l k → sq s.heap l items → items[k]? = some x →
    (∀ h', it h' i l (k + 1) → Heap.SameBut i s.heap h' → Q x { s with heap := h' }) → wpAny (model prog w) A (Builtin.SmallTypes.nextOf (.ref i)) Q E s
  stop : ∀ {prog : Program} {w : World} {A : Around} {E : Value → Shared → Prop} {s : Shared} {i l : Addr} {k : Nat} {items : Array Value} {Q : Value → Shared → Prop}, A.handled = none → it s.heap i l k → sq s.heap l items → items[k]? = none →
    (∀ h' e, Heap.ExtBut i s.heap h' → (∃ o, h'.get? e = some o ∧ o.cls = .type "StopIteration") → E (.ref e) { s with heap := h' }) → wpAny (model prog w) A (Builtin.SmallTypes.nextOf (.ref i)) Q E s
  itAt : ∀ {h h' : Heap} {i l : Addr} {k : Nat}, it h i l k → (∀ o, h.get? i = some o → h'.get? i = some o) → it h' i l k
  sqAt : ∀ {h h' : Heap} {l : Addr} {xs : Array Value}, sq h l xs → (∀ o, h.get? l = some o → h'.get? l = some o) → sq h' l xs
  obj : ∀ {h : Heap} {i l : Addr} {k : Nat}, it h i l k → ∃ o, h.get? i = some o ∧ ∀ v, o.data ≠ .cell v
theorem sqIt_T : SqIt Heap.IsTupleIter Heap.IsTuple where
  item := fun a b c d => nextOf_tuple_item a b c d
  stop := fun a b c d e => nextOf_tuple_end a b c d e
  itAt := fun a b => a.at b
  sqAt := fun a b => a.at b
  obj := fun ⟨o, h1, _, h2⟩ => ⟨o, h1, fun v q => by rw [h2] at q; cases q⟩
end Den
set_option Elab.async false
set_option linter.all false
set_option maxRecDepth 100000
set_option maxHeartbeats 4000000
namespace Den
open PySem PySem.Spec PyProof.Rows L2 RZ
end Den
set_option Elab.async false
set_option linter.all false
set_option maxRecDepth 100000
set_option maxHeartbeats 4000000
namespace Den
open PySem PySem.Spec PyProof.Rows L2 RZ
section
variable {prog : Program} {w : World} {A : Around} {E : Value → Shared → Prop} {s : Shared} {itA : Heap → Addr → Addr → Nat → Prop} {sqA : Heap → Addr → Array Value → Prop} {e it l : Addr} {i : Nat} {items : Array Value} {x old : Value}
theorem enumG_item {Q : Value → Shared → Prop} (SA : SqIt itA sqA) (he : IsEnum s.heap e it i old) (hit : itA s.heap it l i) (hl : sqA s.heap l items) (hx : items[i]? = some x) (hne : e ≠ it)
    (hQ : ∀ h', IsEnumOut h' e it ((i : Int) + 1) x s.heap.objs.size → itA h' it l (i + 1) → h'.get? s.heap.objs.size = some { cls := .type "tuple", data := .seq #[.int i s.toks, x] } → h'.objs.size = s.heap.objs.size + 1 →
      (∀ b o, b ≠ e → b ≠ it → s.heap.get? b = some o → h'.get? b = some o) → Q (.ref s.heap.objs.size) { s with heap := h', toks := s.toks + 1 }) :
    wpAny (model prog w) A (Builtin.«enumerate.__next__» ⟨[.ref e], []⟩) (fun fin s' => ∃ v, fin = .done (.ret v) ∧ Q v s') E s := by
  obtain ⟨hp, g, d, tk, os⟩ := s
  show wpAny _ _ (field (.ref e) 2 >>= _) _ _ _
  apply wpAny_bind
  apply wpAny_field he rfl (x := .ref it) rfl
  apply wpAny_bind
  refine SA.item hit hl hx fun g1 j1 s1 => ?_
  replace s1 : Heap.SameBut it hp g1 := s1
  have e1 : IsEnum g1 e it i old := (s1.2 e hne).trans he
  show wpAny _ _ (field (.ref e) 3 >>= _) _ _ ⟨g1, g, d, tk, os⟩
  apply wpAny_bind
  apply wpAny_field e1 rfl (x := rawInt i) rfl
  show wpAny _ _ (field (.ref e) 4 >>= _) _ _ ⟨g1, g, d, tk, os⟩
  apply wpAny_bind
  apply wpAny_field e1 rfl (x := .none) rfl
  show wpAny _ _ (mkInt i >>= _) _ _ ⟨g1, g, d, tk, os⟩
  refine wpAny_bind (wpAny_mkInt ?_)
  show wpAny _ _ (setField (.ref e) 3 (rawInt ((i : Int) + 1)) >>= _) _ _ ⟨g1, g, d, tk + 1, os⟩
  apply wpAny_bind
  refine wpAny_setField_rec e1 (by simp) fun g2 e2 s2 => ?_
  replace s2 : Heap.SameBut e g1 g2 := s2
  replace e2 : IsEnum g2 e it ((i : Int) + 1) old := e2
  show wpAny _ _ (setField (.ref e) 4 .none >>= _) _ _ ⟨g2, g, d, tk + 1, os⟩
  apply wpAny_bind
  refine wpAny_setField_rec e2 (by simp) fun g3 e3 s3 => ?_
  replace s3 : Heap.SameBut e g2 g3 := s3
  replace e3 : IsEnum g3 e it ((i : Int) + 1) old := e3
  show wpAny _ _ (newTuple [.int i tk, x] >>= _) _ _ ⟨g3, g, d, tk + 1, os⟩
  refine wpAny_bind (wpAny_newTuple ?_)
  have hsz : g3.objs.size = hp.objs.size := by rw [s3.1, s2.1, s1.1]
  have hel : e < hp.objs.size := Heap.lt_size he
  have c3 : ∀ b o, b ≠ e → b ≠ it → hp.get? b = some o → g3.get? b = some o := fun b o n1 n2 q => s3.extBut b o n1 (s2.extBut b o n1 (s1.extBut b o n2 q))
  have j3 : itA g3 it l (i + 1) := SA.itAt j1 fun o q => s3.extBut _ _ (Ne.symm hne) (s2.extBut _ _ (Ne.symm hne) q)
  have e4 : IsEnum (g3.push { cls := .type "tuple", data := .seq #[.int i tk, x] }) e it ((i : Int) + 1) old := Heap.get?_push_of_some _ e3
  have t4 : (g3.push { cls := .type "tuple", data := .seq #[.int i tk, x] }).get? hp.objs.size = some { cls := .type "tuple", data := .seq #[.int i tk, x] } := by rw [← hsz]; exact Heap.get?_push_size _ rfl
  have z4 : (g3.push { cls := .type "tuple", data := .seq #[.int i tk, x] }).objs.size = hp.objs.size + 1 := by rw [Heap.size_push, hsz]
  have c4 : ∀ b o, b ≠ e → b ≠ it → hp.get? b = some o → (g3.push { cls := .type "tuple", data := .seq #[.int i tk, x] }).get? b = some o := fun b o n1 n2 q => Heap.get?_push_of_some _ (c3 b o n1 n2 q)
  have j4 : itA (g3.push { cls := .type "tuple", data := .seq #[.int i tk, x] }) it l (i + 1) := SA.itAt j3 fun o q => Heap.get?_push_of_some _ q
  show wpAny _ _ (Builtin.SmallTypes.ownedTupleIsFree (.ref e) >>= _) _ _ ⟨g3.push { cls := .type "tuple", data := .seq #[.int i tk, x] }, g, d, tk + 1, os⟩
  rw [hsz]
  generalize g3.push { cls := .type "tuple", data := .seq #[.int i tk, x] } = g4 at e4 t4 z4 c4 j4 ⊢
  apply wpAny_bind
  unfold Builtin.SmallTypes.ownedTupleIsFree
  apply wpAny_bind
  apply wpAny_field e4 rfl (x := .none) rfl
  apply wpAny_pure
  simp only [if_true]
  apply wpAny_bind
  apply wpAny_rule
  apply wpAny_bind
  apply wpAny_field e4 rfl (x := old) rfl
  apply wpAny_bind
  refine wpAny_setField_rec e4 (by simp) fun g5 e5 s5 => ?_
  replace s5 : Heap.SameBut e g4 g5 := s5
  replace e5 : IsEnum g5 e it ((i : Int) + 1) x := e5
  show wpAny _ _ (Builtin.SmallTypes.ownedTupleHandOut (.ref e) (.ref hp.objs.size) >>= _) _ _ ⟨g5, g, d, tk + 1, os⟩
  apply wpAny_bind
  unfold Builtin.SmallTypes.ownedTupleHandOut
  apply wpAny_bind
  refine wpAny_setField_rec e5 (by simp) fun g6 e6 s6 => ?_
  replace s6 : Heap.SameBut e g5 g6 := s6
  replace e6 : IsEnumOut g6 e it ((i : Int) + 1) x hp.objs.size := e6
  refine wpAny_setField_rec e6 (by simp) fun g7 e7 s7 => ?_
  replace s7 : Heap.SameBut e g6 g7 := s7
  replace e7 : IsEnumOut g7 e it ((i : Int) + 1) x hp.objs.size := e7
  have up : ∀ b o, b ≠ e → g4.get? b = some o → g7.get? b = some o := fun b o n q => s7.extBut _ _ n (s6.extBut _ _ n (s5.extBut _ _ n q))
  refine wpAny_bind (wpAny_letGo (wpAny_pure ⟨_, rfl, hQ g7 e7 (SA.itAt j4 fun o q => up _ o (Ne.symm hne) q) (up _ _ (Nat.ne_of_gt hel) t4) (by rw [s7.1, s6.1, s5.1, z4]) fun b o n1 n2 q => up b o n1 (c4 b o n1 n2 q)⟩))
theorem pyNext_enumG {Q : Option Value → Shared → Prop} (SA : SqIt itA sqA) (he : IsEnum s.heap e it i old) (hit : itA s.heap it l i) (hl : sqA s.heap l items) (hx : items[i]? = some x) (hne : e ≠ it)
    (hQ : ∀ h', IsEnumOut h' e it ((i : Int) + 1) x s.heap.objs.size → itA h' it l (i + 1) → h'.get? s.heap.objs.size = some { cls := .type "tuple", data := .seq #[.int i s.toks, x] } → h'.objs.size = s.heap.objs.size + 1 →
      (∀ b o, b ≠ e → b ≠ it → s.heap.get? b = some o → h'.get? b = some o) → Q (some (.ref s.heap.objs.size)) { s with heap := h', toks := s.toks + 1 }) : wpAny (model prog w) A (pyNext (.ref e)) Q E s := by
  have hT : s.TypeIs (.ref e) "enumerate" := ⟨_, he, rfl⟩
  unfold pyNext
  apply wpAny_bind
  apply wpAny_attempt
  refine wpAny_callSpecial?_slot (name := Str.ofString "__next__") hT F.slot_enumerate_next (wpAny_call_entry F.slot_enumerate_next hT F.entry_enumerate_next ?_ (F.args_enumerate_next_1 _))
  exact enumG_item SA he hit hl hx hne fun h' a b c d k => wpAny_pure (hQ h' a b c d k)
theorem pyNext_enumG_end {Q : Option Value → Shared → Prop} (hh : A.handled = none) (SA : SqIt itA sqA) (he : IsEnum s.heap e it i old) (hit : itA s.heap it l i) (hl : sqA s.heap l items) (hx : items[i]? = none)
    (hQ : ∀ h', Heap.ExtBut it s.heap h' → Q none { s with heap := h' }) : wpAny (model prog w) A (pyNext (.ref e)) Q E s := by
  have hT : s.TypeIs (.ref e) "enumerate" := ⟨_, he, rfl⟩
  unfold pyNext
  apply wpAny_bind
  apply wpAny_attempt
  refine wpAny_callSpecial?_slot (name := Str.ofString "__next__") hT F.slot_enumerate_next (wpAny_call_entry F.slot_enumerate_next hT F.entry_enumerate_next ?_ (F.args_enumerate_next_1 _))
  show wpAny _ _ (field (.ref e) 2 >>= _) _ _ _
  apply wpAny_bind
  apply wpAny_field he rfl (x := .ref it) rfl
  apply wpAny_bind
  refine SA.stop hh hit hl hx fun h' x he' ⟨o, ho, hc⟩ => ?_
  exact wpAny_bind (wpAny_isInstance (T := "StopIteration") (b := true) ⟨o, ho, hc⟩ isSubtype_stop (wpAny_pure (hQ _ he')))
end
def en1 (h : Heap) (l : Addr) : Heap := h.push { cls := .type "tuple_iterator", data := .fields #[.ref l, .int 0 0] }
def en2 (h : Heap) (l : Addr) : Heap := (en1 h l).push { cls := .type "enumerate", data := .fields #[.none, .bool false, .ref h.objs.size, rawInt 0, .none, .none] }
theorem en_new (l : Addr) (items : Array Value) :
    Meets (Builtin.«enumerate.__new__» ⟨[.type "enumerate", .ref l], []⟩) (fun _ R s => s.heap.IsTuple l items ∧ R (.ok (.ret (.ref (en1 s.heap l).objs.size))) { s with heap := en2 s.heap l }) :=
  .of_wp fun prog w A R s h => by
    obtain ⟨hp, g, d, tk, os⟩ := s
    obtain ⟨hl, h⟩ := h
    have hsub := sub_enumerate
    have hL : Heap.IsTuple (Shared.heap ⟨hp, g, d, tk, os⟩) l items := hl
    wp_walk
    refine wpAny_stack_any fun st => wpAny_pure ?_
    split
    · rename_i c _ _ _ _ _
      cases (c == Value.type "enumerate")
      · wp_walk using wpAny_pyIter_tuple hL
        exact ⟨_, rfl, h⟩
      · wp_walk using wpAny_pyIter_tuple hL
        exact ⟨_, rfl, h⟩
    · wp_walk using wpAny_pyIter_tuple hL
      exact ⟨_, rfl, h⟩
end Den
set_option Elab.async false
set_option linter.all false
set_option maxRecDepth 100000
set_option maxHeartbeats 4000000
namespace Den
open PySem PySem.Spec PyProof.Rows L2 RZ
section
variable {prog : Program} {w : World} {A : Around} {E : Value → Shared → Prop} {s : Shared}
theorem call_enumT {l : Addr} {items : Array Value} {Q : Value → Shared → Prop} (hL : s.heap.IsTuple l items)
    (h : ∀ h', IsEnum h' (s.heap.objs.size + 1) s.heap.objs.size 0 .none → h'.IsTupleIter s.heap.objs.size l 0 → h'.objs.size = s.heap.objs.size + 2 → (∀ b o, s.heap.get? b = some o → h'.get? b = some o) → Q (.ref (s.heap.objs.size + 1)) { s with heap := h' }) :
    wpAny (model prog w) A (call (.type "enumerate") [.ref l]) Q E s := by
  refine callType_new F.called_enumerate (by decide) (F.typeCall_enumerate_1 _) (F.newCall_enumerate_1 _) (fun obj => F.args_object_init_2 obj _) F.entry_enumerate_new (en_new l items) ⟨hL, ?_⟩
  have n1 : (en1 s.heap l).objs.size = s.heap.objs.size + 1 := Heap.size_push ..
  have n2 : (en2 s.heap l).objs.size = s.heap.objs.size + 2 := by rw [en2, Heap.size_push, n1]
  have k1 : ∀ b o, (en1 s.heap l).get? b = some o → (en2 s.heap l).get? b = some o := fun b o e => Heap.get?_push_of_some _ e
  have g2 : (en2 s.heap l).get? (en1 s.heap l).objs.size = some _ := Heap.get?_push_size _ rfl
  have g1 : (en2 s.heap l).get? s.heap.objs.size = some _ := k1 _ _ (Heap.get?_push_size _ rfl)
  show _ ∧ _
  rw [n1] at g2
  rw [n1]
  exact ⟨⟨_, g2, rfl⟩, h _ g2 ⟨_, g1, rfl, rfl⟩ n2 fun b o x => k1 _ _ (Heap.get?_push_of_some _ x)⟩
end
def IteT (K : PySem.W.Frag) (a : Addr) : It :=
  ⟨fun i H => ∃ (xs : List V) (x : V), SqT K H a xs ∧ xs[i]? = some x, fun i H v H' => ∃ T x, v = .ref T ∧ H T = none ∧ H' = upd H T (.tup [.int (i : Nat), x]) ∧ ∀ xs, SqT K H a xs → xs[i]? = some x, fun i H => ∃ xs : List V, SqT K H a xs ∧ xs.length ≤ i⟩
theorem two {p : Addr → Prop} {e it : Addr} (h1 : p e) (h2 : p it) : ∀ c ∈ [e, it], p c := by
  intro c hc
  have q : c = e ∨ c = it := by simpa using hc
  rcases q with q | q <;> (rw [q]; assumption)
theorem turn_enumT {P : Program} {w : World} {K : PySem.W.Frag} {elts : List Expr} {kk : Nat} {tpos : Pos} (a e it : Addr) :
    Turn P w K (.Tuple elts kk tpos) (IteT K a) [e, it] e (fun i h => (∃ old, IsEnum h e it ((i : Nat) : Int) old) ∧ h.IsTupleIter it a i ∧ e ≠ it) where
  mem := by simp
  obj := fun i h ⟨⟨old, he⟩, hi, _⟩ => two (p := fun c => ∃ o, h.get? c = some o ∧ ∀ v, o.data ≠ .cell v) ⟨_, he, fun v q => nomatch q⟩ (sqIt_T.obj hi)
  keep := fun i h h' ⟨⟨old, he⟩, hi, hne⟩ k => ⟨⟨old, k e (by simp) _ he⟩, hi.at fun o q => k it (by simp) o q, hne⟩
  item := by
    intro X hP hw hK hc i pins s σ H E I hf ⟨⟨old, he⟩, hit, hne⟩ ⟨xs, x, hq, hx⟩
    subst hP hw hK
    obtain ⟨its, rv, p, _⟩ := I.tuple hq
    obtain ⟨u, hu, ru⟩ := rv.get hx
    have hel : e < s.heap.objs.size := Heap.lt_size he
    have hil : it < s.heap.objs.size := by obtain ⟨_, q, _⟩ := sqIt_T.obj hit; exact Heap.lt_size q
    refine pyNext_enumG sqIt_T he hit p (x := u) (by simpa using hu) hne fun h' ho j hT hsz hk => ?_
    refine ⟨_, rfl, wpAny_letOwnedTupleGo_enum (s := { s with heap := h', toks := s.toks + 1 }) ho fun h'' he' sb => ?_⟩
    have hT2 : h''.get? s.heap.objs.size = some { cls := .type "tuple", data := .seq #[.int i s.toks, u] } := (sb.2 _ (Nat.ne_of_gt hel)).trans hT
    have new : ObjOk X.prog X.w (upd H s.heap.objs.size (.tup [.int (i : Nat), x])) h'' s.heap.objs.size (.tup [.int (i : Nat), x]) := ⟨by show 2 ≤ sizeLine; decide, [.int i s.toks, u], .cons ⟨_, rfl⟩ (.cons ru .nil), ⟨_, hT2, rfl, _, rfl⟩⟩
    have I1 : Inv X pins σ (upd H s.heap.objs.size (.tup [.int (i : Nat), x])) { s with heap := h'', toks := s.toks + 1 } :=
      I.turnedNew (ch := [e, it]) (fun b ob hb q => (sb.2 b (fun z => hb (by simp [z]))).trans (hk b ob (fun z => hb (by simp [z])) (fun z => hb (by simp [z])) q)) hf (Nat.le_refl _) new
    refine ⟨.ref s.heap.objs.size, _, I1, rfl, ⟨_, x, rfl, I.hok.fresh (Nat.le_refl _), rfl, fun ys hy => by rw [I.tuple_inj hy hq]; exact hx⟩, ⟨⟨u, ?_⟩, j.at fun o q => (sb.2 it (Ne.symm hne)).trans q, hne⟩, fun b hb => ?_⟩
    · have e1 : ((i + 1 : Nat) : Int) = (i : Int) + 1 := by omega
      rw [e1]; exact he'
    · rw [upd_ne (Nat.ne_of_lt (two (p := fun c => c < s.heap.objs.size) hel hil b hb))]
      exact (hf b hb).1
  done := by
    intro X hP hw hK hc i pins s σ H E I hf ⟨⟨old, he⟩, hit, hne⟩ ⟨xs, hq, hx⟩
    subst hP hw hK
    obtain ⟨its, rv, p, _⟩ := I.tuple hq
    obtain ⟨f0, f1, f2, f3, f4, f5⟩ := hf it (by simp)
    have hl := rv.length
    exact pyNext_enumG_end (I.ok.hd hc) sqIt_T he hit p (by simp; omega) fun h' eb => ⟨rfl, I.turned (t' := s.toks) (fun b o hb q => eb b o hb q) f0 f1 f3 f4 f5⟩
  self := fun A i s Q E st h => let ⟨⟨_, he⟩, _⟩ := st; wpAny_pyIter_enum he h
def iEnumT (K : PySem.W.Frag) (ta : TA) : TI := fun σ H R => ta σ H fun vs H1 => ∃ a xs, vs = [.ref a] ∧ SqT K H1 a xs ∧ R (IteT K a) H1
theorem pi_enumT {X : Cx} {e : Expr} {ta : TA} {p pos tpos : Pos} {elts : List Expr} {kk : Nat} (hg : Gl X "enumerate") (hm : X.mg "enumerate" = none) (ha : PA X [e] ta) (hs : starEach [e] X.env = [(false, eval e X.env)] := by rfl) :
    PI X (.Tuple elts kk tpos) (.Call (.Name "enumerate" p) [e] [] pos) (iEnumT X.K ta) := by
  refine ⟨fun pins s σ H R I h => ?_⟩
  refine Call_ (ld_blt I hg hm boot_enumerate (PyProof.Rows.callWith_type1 (thn (ha.run pos pins s σ H _ I h) fun us s1 ⟨vs, H1, I1, r1, a, xs, ex, hq, q⟩ => ?_) hs rfl))
  subst ex
  cases r1 with
  | cons r rr =>
    cases rr
    cases r
    obtain ⟨its, rv, p', _⟩ := I1.tuple hq
    refine call_enumT (show s1.heap.IsTuple a its.toArray from p') fun h' he hit hsz hk => wpAny_pyIter_enum he ?_
    have I2 : Inv X pins σ H1 { s1 with heap := h' } := I1.kept (t' := s1.toks) hk
    have fr : ∀ n, FpOk X pins H1 (s1.heap.objs.size + n) := fun n => I1.fpOk (Nat.le_add_right _ _) (I1.hok.fresh (Nat.le_add_right _ _))
    exact ⟨s1.heap.objs.size + 1, [s1.heap.objs.size + 1, s1.heap.objs.size], _, _, H1, rfl, I2, turn_enumT a (s1.heap.objs.size + 1) s1.heap.objs.size, ⟨⟨.none, he⟩, hit, Nat.succ_ne_self _⟩, two (p := fun c => FpOk X pins H1 c) (fr 1) (fr 0), q⟩
section
variable {K : PySem.W.Frag} {xi : XI} {st : Stx xi}
theorem walkD_enumT {a : Addr} {ds : List D} : WalkD true K st (IteT K a) (enumD ds) [.ref a] [.tup ds] where
  goes := fun S H i hi r => by
    obtain ⟨v, e, rv⟩ := repL1 r
    cases e
    cases rv with
    | tup hs rr =>
      rw [enumD_length] at hi
      obtain ⟨v, h1, h2⟩ := rr.get (i := i) (d := ds[i]) (by simp [hi])
      exact ⟨_, v, hs.sq, h1⟩
  stops := fun S H r => by
    obtain ⟨v, e, rv⟩ := repL1 r
    cases e
    cases rv with
    | tup hs rr => exact ⟨_, hs.sq, by rw [rr.length, enumD_length]; exact Nat.le_refl _⟩
  yields := fun S H i x H' hi r y => by
    obtain ⟨v, e, rv⟩ := repL1 r
    cases e
    cases rv with
    | tup hs rr =>
      obtain ⟨T, u, e1, e2, e3, e4⟩ := y
      subst e1 e3
      obtain ⟨d, h1, h2⟩ := rr.getV (e4 _ hs.sq)
      exact ⟨_, enumD_get h1, Chg.new e2, pair_new e2 (.int _) h2⟩
end
def dEnumT : List D → M (List D)
  | [.tup xs] => pure (enumD xs)
  | _ => M.bad
theorem dEnumT_or (ds : List D) : (∃ xs, ds = [.tup xs] ∧ dEnumT ds = pure (enumD xs)) ∨ dEnumT ds = M.bad := by
  match ds with
  | [] => exact .inr rfl
  | [d] => cases d <;> first | exact .inl ⟨_, rfl, rfl⟩ | exact .inr rfl
  | d :: _ :: _ => cases d <;> exact .inr rfl
theorem jEnT {X : Cx} {W : WX} {a : Expr} {p pos tpos : Pos} {elts : List Expr} {kk : Nat} {A : EV → M (List D)} (hm : X.mg "enumerate" = none) (ha : SA X W [a] A) (hg : Gl X "enumerate" := by rfl) (hs : starEach [a] X.env = [(false, eval a X.env)] := by rfl) :
    SI true X W (.Tuple elts kk tpos) (.Call (.Name "enumerate" p) [a] [] pos) (iG dEnumT A) := by
  refine ⟨PI.imp (pi_enumT hg hm ha.pa hs) fun σ H Q ⟨st, S, ρ, m, cv, er, o⟩ => ?_⟩
  refine TAD.bindI (G := dEnumT) cv er o fun vs ds m1 H1 c1 cv1 er1 r1 o1 => ?_
  rcases dEnumT_or ds with ⟨xs, e1, e2⟩ | e2
  · rw [e2] at o1
    subst e1
    obtain ⟨v, ev, rv⟩ := repL1 r1
    subst ev
    have r0 := rv
    cases rv with
    | tup hs rr => exact ⟨_, _, rfl, hs.sq, o1 _ _ _ H1 (Chg.refl _) cv1 (.cons r0 .nil) walkD_enumT⟩
  · rw [e2] at o1; exact o1.elim
end Den
set_option Elab.async false
set_option linter.all false
set_option maxRecDepth 100000
set_option maxHeartbeats 4000000
namespace Den
open PySem PySem.Spec PyProof.Rows L2
end Den
set_option Elab.async false
set_option linter.all false
set_option maxRecDepth 100000
set_option maxHeartbeats 4000000
namespace Den
open PySem PySem.Spec PyProof.Rows L2 RZ
end Den
set_option Elab.async false
set_option linter.all false
set_option maxRecDepth 100000
set_option maxHeartbeats 4000000
namespace Den
open PySem PySem.Spec PyProof.Rows L2 RZ
theorem Out.imp {xi : XI} {K : PySem.W.Frag} {st : Stx xi} {S : Addr → Prop} {H : Hp} {r : R D} {Q Q' : VK} {E : XK} (o : Out K st S H r Q E) (h : ∀ v H', Chg (atSt st) H H' → Q v H' → Q' v H') : Out K st S H r Q' E := by
  cases r with
  | ok d m => exact fun v H' c cv rv => h v H' c (o v H' c cv rv)
  | err c fs m => exact o
  | bad => exact o
theorem Chg.non {B : Addr → Prop} {H H' : Hp} (c : Chg B H H') (a : Addr) (h : H' a = none) : H a = none := by
  cases e : H a with
  | none => rfl
  | some o =>
    rcases c a o e with q | ⟨_, _, o', q, _⟩ <;> (rw [h] at q; cases q)
end Den
set_option Elab.async false
set_option linter.all false
set_option maxRecDepth 100000
set_option maxHeartbeats 4000000
namespace Den
open PySem PySem.Spec PyProof.Rows L2
def dInLB (x y : D) : Option Bool := match x.py, y.py with
  | some d, some (.list ds) => if SeqAt.shaped d && SeqAt.shaped (.list ds) then some (ds.any fun z => PyData.eqv z d) else none
  | _, _ => none
def dInL (x y : D) : M D := match dInLB x y with
  | some b => pure (.bl b)
  | none => M.bad
theorem dInLB_ok {xi : XI} {K : PySem.W.Frag} {st : Stx xi} {S : Addr → Prop} {H : Hp} {x y : V} {dx dy : D} {b : Bool} (h : dInLB dx dy = some b) (rx : Rep K st S H x dx) (ry : Rep K st S H y dy) :
    ∃ d ds, Dp K H x d ∧ Dp K H y (.list ds) ∧ SeqAt.shaped d = true ∧ SeqAt.shaped (.list ds) = true ∧ (ds.any fun z => PyData.eqv z d) = b := by
  unfold dInLB at h
  cases e1 : dx.py with
  | none => rw [e1] at h; simp at h
  | some d =>
    cases e2 : dy.py with
    | none => rw [e1, e2] at h; simp at h
    | some e =>
      rw [e1, e2] at h
      cases e with
      | list ds =>
        cases e3 : (SeqAt.shaped d && SeqAt.shaped (.list ds)) with
        | false => simp [e3] at h
        | true =>
          obtain ⟨h3, h4⟩ := Bool.and_eq_true_iff.mp e3
          simp only [e3, if_true, Option.some.injEq] at h
          exact ⟨d, ds, rx.dp e1, ry.dp e2, h3, h4, h⟩
      | _ => simp at h
section
variable {K : PySem.W.Frag}
theorem vr_inL : VR2 K (rInD K) dInL := by
  intro _ st S H m x y dx dy Q E cv rx ry o
  unfold dInL at o
  cases h : dInLB dx dy with
  | none => rw [h] at o; exact o.elim
  | some b =>
    rw [h] at o
    obtain ⟨d, ds, h1, h2, h3, h4, h5⟩ := dInLB_ok h rx ry
    exact ⟨d, ds, h1, h2, h3, h4, by rw [h5]; exact o _ _ (Chg.refl _) cv (.bl b)⟩
end
section
variable {X : Cx} {W : WX} {pos : Pos} {a b : Expr} {F G : EV → M D}
theorem xInL {k : Nat} (hr : Room k X.A) (ha : SE X W a F) (hb : SE X W b G) (hm : behindInMarks .In b = false := by with_unfolding_all rfl) : SE X W (.Compare a [.In] [b] pos) (f2 dInL F G) := se_cmp dInL (op_inD (by have := hr.un; omega)) vr_inL ha hb hm
end
end Den
set_option Elab.async false
set_option linter.all false
set_option maxRecDepth 100000
set_option maxHeartbeats 4000000
namespace Den
open PySem PySem.Spec PyProof.Rows L2
end Den
set_option Elab.async false
set_option linter.all false
set_option maxRecDepth 100000
set_option maxHeartbeats 4000000
namespace Den
open PySem PySem.Spec PyProof.Rows L2
end Den
set_option Elab.async false
set_option linter.all false
set_option maxRecDepth 100000
set_option maxHeartbeats 4000000
namespace Den
open PySem PySem.Spec PyProof.Rows L2
end Den
set_option Elab.async false
set_option linter.all false
set_option maxRecDepth 100000
set_option maxHeartbeats 4000000
namespace Den
open PySem PySem.Spec PyProof.Rows L2
end Den
set_option Elab.async false
set_option linter.all false
set_option maxRecDepth 100000
set_option maxHeartbeats 4000000
namespace Den
open PySem PySem.Spec PyProof.Rows L2
def dCutT : D → Option Int → Option Int → M D
  | .tup xs, lo, hi => pure (.tup (cutD xs lo hi))
  | _, _, _ => M.bad
def gSliceT (F : EV → M D) (P P' : EV → M (Option Int)) : EV → M D := fun ρ => do let x ← F ρ; let lo ← P ρ; let hi ← P' ρ; dCutT x lo hi
theorem TO.bindD {xi : XI} {W : WX} {K : PySem.W.Frag} {P : EV → M (Option Int)} {G : Option Int → EV → M D} {σ : L2.St} {H : Hp} {Q : VK} {R : Option Int → Hp → Prop} {st : Stx xi} {S : Addr → Prop} {ρ : EV} {m : SM}
    (cv : Cov K st S H m) (er : EnvR K st S H σ ρ) (o : Out K st S H ((P ρ >>= fun d => G d ρ) m) Q (WE W σ))
    (k : ∀ b m1 H1, Chg (atSt st) H H1 → Cov K st S H1 m1 → EnvR K st S H1 σ ρ → Out K st S H1 (G b ρ m1) Q (WE W σ) → R b H1) : TOD xi K W P σ H R := by
  refine ⟨st, S, ρ, m, cv, er, ?_⟩
  rw [bind_run] at o
  cases e : P ρ m with
  | ok b m1 =>
    rw [e] at o
    exact fun H1 c cv1 => k b m1 H1 c cv1 (er.mono c cv.sub) (Out.chg o c)
  | err c fs m1 => rw [e] at o; exact o
  | bad => rw [e] at o; exact o.elim
section
variable {X : Cx} {W : WX} {pos p2 : Pos} {e : Expr} {lo hi : Option Expr} {F : EV → M D} {P P' : EV → M (Option Int)}
theorem cut_whole {α : Type} {xs : List α} {lo hi : Option Int} (h : HT.sIx xs.length 0 lo = 0 ∧ HT.sIx xs.length xs.length hi = xs.length) : cutD xs lo hi = xs := by
  unfold cutD
  rw [h.1, h.2, List.drop_zero, Nat.sub_zero, List.take_length]
def rSlN (K : PySem.W.Frag) : V → Option Int → Option Int → Hp → VK → Prop := fun x lo hi H Q => ∃ a xs, x = .ref a ∧ SqT K H a xs ∧
  (HT.sIx xs.length 0 lo = 0 ∧ HT.sIx xs.length xs.length hi = xs.length → Q (.ref a) H) ∧ ∀ (p : Addr) (ob : Obj), H p = none → ob.dict = none → Q (.ref p) (upd H p (.frz ob (.tup (cutV xs lo hi))))
theorem sl_tupN : SlR X (rSlN X.K) := by
  intro pins s σ H x v vl vu lo hi sl Q inv rx hs pl pu ⟨a, xs, ex, hq, q1, q2⟩
  subst ex
  cases rx
  obtain ⟨its, r, tp, hz⟩ := inv.tuple hq
  have len : its.toArray.size = xs.length := (List.size_toArray ..).trans r.length.symm
  refine ⟨"tuple", _, PyProof.Rows.slot_tuple_getitem.lookup, tp.typeIs, ?_⟩
  by_cases hw : HT.sIx xs.length 0 lo = 0 ∧ HT.sIx xs.length xs.length hi = xs.length
  · exact getItem_tuple_whole tp hs pl pu (len ▸ hw) ⟨.ref a, H, inv, rfl, q1 hw⟩
  · refine HT.getItem_tuple_cut tp hs pl pu (len ▸ hw) ?_ (len ▸ hz)
    rw [len]
    exact tup_laid (h' := s.heap) inv ((r.drop _).take _) (Nat.le_trans (cutV_length xs lo hi) hz) (fun _ _ e => e) q2
theorem xSlT (h : SE X W e F) (hl : SO X W lo P) (hh : SO X W hi P') : SE X W (.Subscript e (.Slice lo hi none p2) pos) (gSliceT F P P') := by
  refine .imp (pe_slice sl_tupN h.pe hl.po hh.po) fun σ H Q ⟨st, S, ρ, m, cv, er, o⟩ => ?_
  refine TE.bind (G := fun x ρ => do let lo ← P ρ; let hi ← P' ρ; dCutT x lo hi) cv er o fun v d m1 H1 c1 cv1 er1 r1 o1 => ?_
  refine TO.bindD (G := fun lo ρ => do let hi ← P' ρ; dCutT d lo hi) cv1 er1 o1 fun l m2 H2 c2 cv2 er2 o2 => ?_
  refine TO.bindD (G := fun hi _ => dCutT d l hi) cv2 er2 o2 fun u m3 H3 c3 cv3 er3 o3 => ?_
  have r3 := (r1.mono c2 cv1.sub fun _ z => z).mono c3 cv2.sub fun _ z => z
  cases d with
  | tup xs =>
    have r4 := r3
    cases r3 with
    | tup hs rr =>
      refine ⟨_, _, rfl, hs.sq, fun hw => ?_, out_tup cv3 o3 (rep_cut rr l u)⟩
      have e5 : cutD xs l u = xs := by
        rw [rr.length] at hw
        exact cut_whole hw
      have o4 : Out X.K st S H3 ((pure (.tup (cutD xs l u)) : M D) m3) Q (WE W σ) := o3
      rw [e5] at o4
      exact o4 _ _ (Chg.refl _) cv3 r4
  | _ => exact o3.elim
end
end Den
set_option Elab.async false
set_option linter.all false
set_option maxRecDepth 100000
set_option maxHeartbeats 4000000
namespace Den
open PySem PySem.Spec PyProof.Rows L2 He
/-- a getter's function, behind its property -/
def gAd (K : PySem.W.Frag) (c f : Str) : Addr := match PySem.W.recIn K (ma K (ga K c) f) "property" with
  | some (.ref g :: _) => g
  | _ => (match PySem.W.recIn K (ma K (ga K c) f) "staticmethod" with
    | some (.ref g :: _) => g
    | _ => 0)
inductive Fx where
  | prop (c f : Str)
  | inst (c : Str)
  | exn (c : Str)
  | excc (c : Str)
  | kit (d c : Str) (b : Bool)
  | kitb (d : Str) (b : Bool)
  | kita (d : Str) (cs : List Str) (b : Bool)
  | exm (d c : Str) (b : Bool)
  | gfn (c m : Str)
  | sff (c : Str)
  | smeth (c f : Str)
def Fx.ok (K : PySem.W.Frag) : Fx → Bool
  | .prop c f => eqO (PySem.W.findIn K (.ref (ga K c)) f) (some (some (.ref (ma K (ga K c) f)))) && (eqO (PySem.W.specialIn K (.ref (ma K (ga K c) f)) "__get__") (some (some (.builtin "property.__get__"))) && (decide (PySem.W.takesIn K (.ref (ma K (ga K c) f)) = some true) &&
    (match PySem.W.recIn K (ma K (ga K c) f) "property" with
    | some (.ref g :: _) => true
    | _ => false)))
  | .inst c => (Fa.cls c).ok K && (eqO (PySem.W.findIn K (.ref (ga K c)) "__class__") (some (some (.builtin "object.__class__"))) && (eqO (PySem.W.specialIn K (.builtin "object.__class__") "__get__") (some (some (.builtin "getset_descriptor.__get__"))) && (decide (PySem.W.takesIn K (.builtin "object.__class__") = some true) &&
    (decide (PySem.W.mroIn K (ga K c) (.type "object") = some true) && ((["NoneType", "bool", "int", "str", "tuple", "list"].all fun n => decide (PySem.W.kitOne K (.type n) (.ref (ga K c)) = some false)) && (["bool", "int", "str", "tuple", "list"].all fun n => decide (PySem.W.kitOne K (.ref (ga K c)) (.type n) = some false)))))))
  | .exn c => oexB K (ga K c) && (eqO (PySem.W.findIn K (.ref (ga K c)) "__init__") (some (some (.ref (ma K (ga K c) "__init__")))) && decide (PySem.W.typeIn K (.ref (ma K (ga K c) "__init__")) = some (.type "function")))
  | .excc c => excB K (ga K c)
  | .kit d c b => decide (PySem.W.kitOne K (.ref (ga K d)) (.ref (ga K c)) = some b)
  | .kitb d b => decide (PySem.W.kitOne K (.ref (ga K d)) (.type "ValueError") = some b)
  | .kita d cs b => decide (PySem.W.kitAny K (.ref (ga K d)) (cs.map fun c => .ref (ga K c)) = some b)
  | .exm d c b => decide (PySem.W.exmOne K (.ref (ga K d)) (.ref (ga K c)) = some b)
  | .gfn c m => match PySem.W.findIn K (.ref (ga K c)) m with
    | some (some (.ref fa)) => PySem.W.fnIn K fa
    | _ => true
  | .sff c => PySem.W.selfFirst K (ga K c)
  | .smeth c f => PySem.W.readsIn K (ga K c) (.type "type") && (eqO (PySem.W.specialIn K (.ref (ga K c)) "__getattribute__") (some (some (.builtin "type.__getattribute__"))) && ((match PySem.W.findCls K (.ref (ga K c)) (.type "type") f with
    | some (.get (.builtin gq) (.ref p) .none (.ref D)) => decide (gq = "staticmethod.__get__") && (decide (D = ga K c) && decide (p = ma K (ga K c) f))
    | _ => false) && (match PySem.W.recIn K (ma K (ga K c) f) "staticmethod" with
    | some (.ref g :: _) => decide (g = gAd K c f)
    | _ => false)))
section
variable {K : PySem.W.Frag}
theorem prop_ok {c f : Str} (h : (Fx.prop c f).ok K = true) : PropOf K (ga K c) f (ma K (ga K c) f) (gAd K c f) := by
  obtain ⟨h1, h⟩ := ba h
  obtain ⟨h2, h⟩ := ba h
  obtain ⟨h3, h4⟩ := ba h
  refine ⟨eqO_ok h1, eqO_ok h2, of_decide_eq_true h3, ?_⟩
  unfold gAd
  split at h4
  · rename_i g r q
    rw [q]
    exact ⟨r, rfl⟩
  · cases h4
theorem inst_ok {c : Str} (h : (Fx.inst c).ok K = true) : InstC K c := by
  obtain ⟨h1, h⟩ := ba h
  obtain ⟨h2, h⟩ := ba h
  obtain ⟨h3, h⟩ := ba h
  obtain ⟨h4, h⟩ := ba h
  obtain ⟨h5, h⟩ := ba h
  obtain ⟨h6, h7⟩ := ba h
  exact ⟨cls_ok h1, eqO_ok h2, eqO_ok h3, of_decide_eq_true h4, of_decide_eq_true h5, fun n hn => of_decide_eq_true (List.all_eq_true.mp h6 n hn), fun n hn => of_decide_eq_true (List.all_eq_true.mp h7 n hn)⟩
theorem exn_ok {c : Str} (h : (Fx.exn c).ok K = true) : OexC K (ga K c) ∧ PySem.W.findIn K (.ref (ga K c)) "__init__" = some (some (.ref (ma K (ga K c) "__init__"))) ∧ PySem.W.typeIn K (.ref (ma K (ga K c) "__init__")) = some (.type "function") := by
  obtain ⟨h1, h⟩ := ba h
  obtain ⟨h2, h3⟩ := ba h
  exact ⟨oexB_ok h1, eqO_ok h2, of_decide_eq_true h3⟩
/-- the function at an address, as a row of its parts -/
def rowAt (K : PySem.W.Frag) (a : Addr) : FnW := match K.lookup a with
  | some o => (match o.data with
    | .func g => some (g.name, g.qualname, g.params, g.body, g.scope, g.globals, g.closure, g.builtins)
    | _ => none)
  | none => none
def goodAt (K : PySem.W.Frag) (d : DefD) (a : Addr) : Bool := PySem.W.keepIn K (.ref a) && (match K.lookup a with
  | some o => (match o.data with
    | .func g => PySem.W.codeIn K g.code d.qual && (dflB K g.defaults (d.dvs K) && kwdB K g.kwdefaults (d.kws K))
    | _ => false)
  | none => false)
theorem funAt {d : DefD} {a : Addr} (e : rowAt K a = d.val) (c : goodAt K d a = true) : ∃ fd, FunD K d.name d.qual d.params d.body d.scope (d.dvs K) (d.kws K) a fd := by
  obtain ⟨hk, hc⟩ := ba c
  unfold rowAt at e
  generalize q : K.lookup a = r at hc e
  match r, q, hc, e with
  | none, _, hc, _ => cases hc
  | some ⟨oc, od, .func g, osl⟩, q, hc, e =>
    obtain ⟨hcode, hd⟩ := ba hc
    obtain ⟨hd1, hd2⟩ := ba hd
    cases g
    simp only [DefD.val, Option.some.injEq, Prod.mk.injEq] at e
    obtain ⟨e1, e2, e3, e4, e5, e6, e7, e8⟩ := e
    subst e1 e2 e3 e4 e5 e6 e7 e8
    exact ⟨_, ⟨_, _, _, _, _, _, _, _, _, _, rfl, q, hcode, dflB_ok hd1, kwdB_ok hd2⟩, hk⟩
end
/-- a getter: its class, its name; the def -/
abbrev GetD : Type := Str × Str × DefD
abbrev AlX : Type := Bool × (List FnW × List FnW)
def obsX (fa : List Fa) (fx : List Fx) (fn : List DefD) (fg : List GetD) (K : PySem.W.Frag) : AlX :=
  ((fa.all fun f => f.ok K) && ((fx.all fun f => f.ok K) && ((fn.all fun d => d.ok K) && fg.all fun d => goodAt K d.2.2 (gAd K d.1 d.2.1))), (fn.map fun d => fnW K d.at_, fg.map fun d => rowAt K (gAd K d.1 d.2.1)))
def valX (fn : List DefD) (fg : List GetD) : AlX := (true, (fn.map DefD.val, fg.map fun d => d.2.2.val))
def SaysX (fa : List Fa) (fx : List Fx) (fn : List DefD) (fg : List GetD) (K : PySem.W.Frag) : Prop := obsX fa fx fn fg K = valX fn fg
section
variable {fa : List Fa} {fx : List Fx} {fn : List DefD} {fg : List GetD} {K : PySem.W.Frag}
theorem SaysX.bools (c : SaysX fa fx fn fg K) : (fa.all fun f => f.ok K) = true ∧ (fx.all fun f => f.ok K) = true ∧ (fn.all fun d => d.ok K) = true ∧ (fg.all fun d => goodAt K d.2.2 (gAd K d.1 d.2.1)) = true := by
  obtain ⟨h1, h⟩ := ba (congrArg (fun z : AlX => z.1) c)
  obtain ⟨h2, h⟩ := ba h
  obtain ⟨h3, h4⟩ := ba h
  exact ⟨h1, h2, h3, h4⟩
theorem SaysX.fact (c : SaysX fa fx fn fg K) (i : Nat) {f : Fa} (h : fa[i]? = some f := by rfl) : f.ok K = true := List.all_eq_true.mp c.bools.1 f (List.mem_of_getElem? h)
theorem SaysX.own (c : SaysX fa fx fn fg K) (i : Nat) {f : Fx} (h : fx[i]? = some f := by rfl) : f.ok K = true := List.all_eq_true.mp c.bools.2.1 f (List.mem_of_getElem? h)
theorem SaysX.def_ (c : SaysX fa fx fn fg K) (i : Nat) {d : DefD} (h : fn[i]? = some d := by rfl) : ∃ fd, FunD K d.name d.qual d.params d.body d.scope (d.dvs K) (d.kws K) (fAd K d.at_) fd := by
  have e2 := congrArg (fun z : AlX => z.2.1[i]?) c
  have e3 : (fn.map fun d => fnW K d.at_)[i]? = (fn.map DefD.val)[i]? := e2
  rw [List.getElem?_map, List.getElem?_map, h] at e3
  exact DefD.funD (Option.some.inj e3) (List.all_eq_true.mp c.bools.2.2.1 d (List.mem_of_getElem? h))
theorem SaysX.getter (c : SaysX fa fx fn fg K) (i : Nat) {d : GetD} (h : fg[i]? = some d := by rfl) : ∃ fd, FunD K d.2.2.name d.2.2.qual d.2.2.params d.2.2.body d.2.2.scope (d.2.2.dvs K) (d.2.2.kws K) (gAd K d.1 d.2.1) fd := by
  have e3 : (fg.map fun d => rowAt K (gAd K d.1 d.2.1))[i]? = (fg.map fun d => d.2.2.val)[i]? := congrArg (fun z : AlX => z.2.2[i]?) c
  rw [List.getElem?_map, List.getElem?_map, h] at e3
  exact funAt (Option.some.inj e3) (List.all_eq_true.mp c.bools.2.2.2 d (List.mem_of_getElem? h))
end
end Den
set_option Elab.async false
set_option linter.all false
set_option maxRecDepth 100000
set_option maxHeartbeats 4000000
namespace Den
open PySem PySem.Spec PyProof.Rows L2 He
theorem walk_X {law : PySem.W.OpenLaw} {most lev : Nat} {prg : Program} {lo : List Str} {Xp : (Str → Option Value) → Heap → Prop} {Yp : World → Heap → Prop} {dr : DefRec} {Cx0 : World → CXT} {par : Str}
    (h1 : law.most = some most) (h2 : most ≤ sizeLine) (h3 : dr.params.defaults = []) (h4 : Room lev callerA)
    (hF : ∀ (w : World) (mg : Str → Option Value) (fl : Addr) (hp : Heap), Yp w hp → hp.Ns mainGlobals mg → mg dr.name = some (.ref fl) →
      ∃ (K : PySem.W.Frag) (fd : FuncData) (sp : Sp), K.In hp ∧ (∀ (st : Shared) (u : Value), BindsTo st fd ⟨[u], []⟩ [(par, u)]) ∧
        (∀ (H : Hp) (ad : Addr) (nums : List Int), nums.length ≤ most → Only H → SqL K H ad (nums.map V.int) → sp [.ref ad] H (fun v _ => v = .bl true) fun _ _ _ => False) ∧
        ∀ below : Heap, K.In below → below.Ns mainGlobals mg → FnOk law.prog w K mg below (Cx0 w) lev fl fd [par] sp)
    (hX : ∀ (w : World) (H : Hp) (st : Shared) (e : Value) (st' : Shared), Cx0 w [] H st (fun _ _ _ => False) e st' → False) :
    PySem.W.WalkO prg lo Xp Yp law.row.toRowW dr [] (fun f us => PySem.call f us) := by
  refine Att.attach_call h1 h3 fun w _ st mg mb fl o pm cd doc ad us nums G Y q1 q2 q3 q4 q5 q6 q7 q8 => ?_
  obtain ⟨K, fd, sp, k1, k2, k3, k4⟩ := hF w mg fl _ Y G.T.g q4
  exact law_call k1 G.T.g G.T.b G.T.builtins G.T.nolimit q8 q5 q6 (Nat.le_trans q7 h2) h4 k4 k2 (fun H a b => k3 H ad nums q7 a b) fun H e st' => hX w H st e st'
theorem no_CX {P : Program} (w : World) (H : Hp) (st : Shared) (e : Value) (st' : Shared) (h : L2N.CX P w [] H st (fun _ _ _ => False) e st') : False := by
  obtain ⟨_, _, _, _, _, _, _, _, _, _, _, _, z⟩ := h
  exact z
end Den
set_option Elab.async false
set_option linter.all false
set_option maxRecDepth 100000
set_option maxHeartbeats 4000000
namespace Den
open PySem PySem.Spec PyProof.Rows L2 He
def obsL (as : List Addr) (fa : List Fa) (fx : List Fx) (fn : List DefD) (fg : List GetD) (s : Shared) : AlX := match HandSHeadRun.putAll s.heap.objs.toList .nil 0 with
  | some (t, k) => obsX fa fx fn fg (frG (HandSHeadRun.getT ⟨t, k, s.heap.life, #[], s.drawn, s.toks, s.os⟩) as)
  | none => obsX fa fx fn fg (frG s.heap.get? as)
theorem obsL_eq {as : List Addr} {fa : List Fa} {fx : List Fx} {fn : List DefD} {fg : List GetD} {s : Shared} : obsL as fa fx fn fg s = obsX fa fx fn fg (frG s.heap.get? as) := by
  unfold obsL
  split
  · rename_i t k e
    have e2 := HandSHeadRun.putAll_heap (h := s.heap) e
    have e3 : HandSHeadRun.getT ⟨t, k, s.heap.life, #[], s.drawn, s.toks, s.os⟩ = s.heap.get? := by
      funext a
      rw [HandSHeadRun.getT_eq]
      show (PySem.W.absHeap t k s.heap.life).get? a = _
      rw [e2]
    rw [e3]
  · rfl
def hookL (as : List Addr) (fa : List Fa) (fx : List Fx) (fn : List DefD) (fg : List GetD) : PySem.W.Hook where
  α := AlX
  obs := obsL as fa fx fn fg
  val := fun _ => valX fn fg
  says := fun _ h => ∃ K : PySem.W.Frag, K.In h ∧ SaysX fa fx fn fg K
  of := fun _ s e => ⟨_, frG_in, (obsL_eq (s := s)).symm.trans e⟩
  keeps := fun _ _ _ ⟨K, hK, c⟩ k => ⟨K, PySem.W.Frag.In.keeps hK k, c⟩
end Den
namespace Den
open PySem PySem.Spec PyProof.Rows L2 He
/-- the same without the tree: for a head whose state is a tree -/
def hookG (as : List Addr) (fa : List Fa) (fx : List Fx) (fn : List DefD) (fg : List GetD) : PySem.W.Hook where
  α := AlX
  obs := fun s => obsX fa fx fn fg (frG s.heap.get? as)
  val := fun _ => valX fn fg
  says := fun _ h => ∃ K : PySem.W.Frag, K.In h ∧ SaysX fa fx fn fg K
  of := fun _ _ e => ⟨_, frG_in, e⟩
  keeps := fun _ _ _ ⟨K, hK, c⟩ k => ⟨K, PySem.W.Frag.In.keeps hK k, c⟩
end Den
set_option Elab.async false
set_option linter.all false
set_option maxRecDepth 100000
set_option maxHeartbeats 4000000
namespace L2
open PySem PySem.Spec PyProof.Rows PySem.W
section
variable {X : Cx} {β : Type}
theorem each_vals {val : β → V} : ∀ {bs : List β} {us : List Value}, Vals (bs.map val) us → EachIs (fun v b => RelV (val b) v) us bs
  | [], _, .nil => .nil
  | b :: bs, _ :: us, .cons r t => .cons r (each_vals t)
theorem vals_each {val : β → V} : ∀ {bs : List β} {us : List Value}, EachIs (fun v b => RelV (val b) v) us bs → Vals (bs.map val) us
  | [], _, .nil => .nil
  | b :: bs, _ :: us, .cons r t => .cons r (vals_each t)
theorem each_reads {pins : List (Addr × Obj)} {σ : St} {H : Hp} {s : Shared} (I : Inv X pins σ H s) {val : β → V} {enc : β → PyData} : ∀ {bs : List β} {us : List Value}, Vals (bs.map val) us → (∀ b ∈ bs, Dp X.K H (val b) (enc b)) → EachIs (fun v b => ∃ as, Reads s.heap v (enc b) as) us bs
  | [], _, .nil, _ => .nil
  | b :: bs, _ :: us, .cons r t, h => .cons (Dp.reads I _ _ _ (h b (by simp)) r) (each_reads I t fun c hc => h c (by simp [hc]))
def rSortD (β : Type) (K : PySem.W.Frag) : List V → Hp → VK → Prop := fun vs H Q => ∃ (a : Addr) (bs : List β) (val : β → V) (enc : β → PyData), vs = [V.ref a] ∧ SqL K H a (bs.map val) ∧ (∀ b ∈ bs, Dp K H (val b) (enc b)) ∧ (∀ b ∈ bs, SeqAt.shaped (enc b) = true) ∧ AllAlike (bs.map enc) ∧ Sortable (bs.map enc) ∧
  ∀ p, H p = none → Q (.ref p) (upd H p (.lst ((bs.mergeSort (dataLe false enc)).map val)))
theorem cr_sortedD (hu : X.A.units + 66 < cLine) : CallR X (.builtin "sorted") (rSortD β X.K) := by
  intro pins s σ H vs us Q I r h
  obtain ⟨a, bs, val, enc, rfl, hs, hd, hsh, hal, hk, q⟩ := h
  obtain ⟨its, rv, hl, hz⟩ := I.list hs
  rw [Vals.ref1 r]
  have hlb : bs.length = its.length := by rw [← rv.length, List.length_map]
  refine sorted_data (R := fun v b => RelV (val b) v) (enc := enc) (bs := bs) hl.isList (each_vals rv) (each_reads I rv hd) hal hk (by rw [List.length_map] at hz; exact hz) (fun b hb => ?_) fun out ho eo => ?_
  · have := SeqAt.depth_of_shaped (hsh b hb)
    omega
  · obtain ⟨ep, he'⟩ := PyProof.Rows.sortedAll_at s.heap its out.toArray
    refine ⟨.ref _, upd H (s.heap.objs.size + 1) (.lst ((bs.mergeSort (dataLe false enc)).map val)), I.laid (t' := s.toks) (fun _ _ => PyProof.Rows.sortedAll_old) (Nat.le_succ _) ⟨?_, out, ep, vals_each eo, he'⟩, rfl, q _ (I.hok.fresh (Nat.le_succ _))⟩
    rw [List.length_map, List.length_mergeSort]
    rw [List.length_map] at hz
    exact hz
end
end L2
set_option Elab.async false
set_option linter.all false
set_option maxRecDepth 100000
set_option maxHeartbeats 4000000
namespace Den
open PySem PySem.Spec PyProof.Rows L2
def sortB (es : List PyData) : Bool := (es.all fun d => match d with
    | .tuple (_ :: _) => true
    | _ => false) || es.all fun d => match d with
    | .none => false
    | .tuple _ => false
    | _ => true
theorem sortB_ok {es : List PyData} (h : sortB es = true) : PySem.W.Sortable es := by
  unfold sortB at h
  rcases Bool.or_eq_true_iff.mp h with h | h
  · refine .inl fun d hd => ?_
    have z := List.all_eq_true.mp h d hd
    match d, z with
    | .tuple (x :: r), _ => exact ⟨x, r, rfl⟩
  · refine .inr fun d hd => ?_
    have z := List.all_eq_true.mp h d hd
    match d, z with
    | .bool _, _ => exact ⟨(fun e => nomatch e), fun _ e => nomatch e⟩
    | .int _, _ => exact ⟨(fun e => nomatch e), fun _ e => nomatch e⟩
    | .str _, _ => exact ⟨(fun e => nomatch e), fun _ e => nomatch e⟩
    | .list _, _ => exact ⟨(fun e => nomatch e), fun _ e => nomatch e⟩
    | .dict _, _ => exact ⟨(fun e => nomatch e), fun _ e => nomatch e⟩
def alikeB (es : List PyData) : Bool := es.all fun d => es.all fun e => PySem.W.alike d e
theorem alikeB_ok {es : List PyData} (h : alikeB es = true) : PySem.W.AllAlike es := fun d hd e he => List.all_eq_true.mp (List.all_eq_true.mp h d hd) e he
def leD : D × PyData → D × PyData → Bool := PySem.W.dataLe false Prod.snd
def dSortL (xs : List D) : M (List D) := match D.pys xs with
  | some es => if es.all SeqAt.shaped && (alikeB es && sortB es) then pure (((xs.zip es).mergeSort leD).map (·.1)) else M.bad
  | none => M.bad
def dSorted : List D → M (List D)
  | [.lst xs] => dSortL xs
  | _ => M.bad
section
variable {K : PySem.W.Frag} {xi : XI} {st : Stx xi} {S : Addr → Prop} {H : Hp}
theorem repL_map {β : Type} {f : β → V} {g : β → D} : ∀ {l : List β}, (∀ b ∈ l, Rep K st S H (f b) (g b)) → RepL K st S H (l.map f) (l.map g)
  | [], _ => .nil
  | b :: l, h => .cons (h b (by simp)) (repL_map fun c hc => h c (by simp [hc]))
/-- a list that stands for things of data, as one list of threes -/
theorem trio_of : ∀ {vs : List V} {ds : List D} {es : List PyData}, RepL K st S H vs ds → D.pys ds = some es → ∃ bs : List ((V × D) × PyData), vs = bs.map (·.1.1) ∧ ds.zip es = bs.map (fun b => (b.1.2, b.2)) ∧ es = bs.map (·.2) ∧ ∀ b ∈ bs, Rep K st S H b.1.1 b.1.2 ∧ b.1.2.py = some b.2
  | _, _, _, .nil, h => by
    rw [D.pys] at h
    cases h
    exact ⟨[], rfl, rfl, rfl, fun b hb => absurd hb (by simp)⟩
  | _, _, _, .cons (v := v) (d := d) (ds := ds) r t, h => by
    rw [D.pys] at h
    cases e1 : d.py with
    | none => rw [e1] at h; simp at h
    | some u =>
      cases e2 : D.pys ds with
      | none => rw [e1, e2] at h; simp at h
      | some us =>
        rw [e1, e2] at h
        simp at h
        subst h
        obtain ⟨bs, h1, h2, h3, h4⟩ := trio_of t e2
        refine ⟨((v, d), u) :: bs, by rw [h1]; rfl, by rw [List.zip_cons_cons, h2]; rfl, by rw [List.map_cons, ← h3], fun b hb => ?_⟩
        rcases List.mem_cons.mp hb with e | hb
        · subst e; exact ⟨r, e1⟩
        · exact h4 b hb
end
section
variable {X : Cx} {W : WX} {p pos : Pos} {e : Expr} {es : List Expr} {A : EV → M (List D)}
theorem lSorted {k : Nat} (hr : Room k X.A) (hm : X.mg "sorted" = none) (ha : SA X W (e :: es) A) (hg : Gl X "sorted" := by rfl) (he : starEach (e :: es) X.env = (false, eval e X.env) :: starEach es X.env := by rfl) (hpl : (backTo pos (starEach es X.env)).any (·.1) = false := by rfl) :
    SF X W (.Call (.Name "sorted" p) (e :: es) [] pos) (lG dSorted A) := by
  have hu : X.A.units + 66 < cLine := by have := hr.un; omega
  refine .imp (pe_callB (cr_sortedD (β := (V × D) × PyData) hu) hg hm PyProof.Rows.boot_sorted ha.pa (by decide) (by decide) he hpl) fun σ H Q ⟨st, S, ρ, m, cv, er, o⟩ => ?_
  refine TAD.bindF (G := fun ds _ => dSorted ds) cv er o fun vs ds m1 H1 c1 cv1 er1 r1 o1 => ?_
  match ds, r1, o1 with
  | [.lst xs], r1, o1 =>
    obtain ⟨v, rfl, rv⟩ := repL1 r1
    cases rv with
    | lst hn hs rr =>
      have o2 : OutF X.K st S H1 (dSortL xs m1) Q (WE W σ) := o1
      unfold dSortL at o2
      cases eq : D.pys xs with
      | none => rw [eq] at o2; exact o2.elim
      | some es' =>
        rw [eq] at o2
        cases hb : (es'.all SeqAt.shaped && (alikeB es' && sortB es')) with
        | false => simp only [hb, Bool.false_eq_true, if_false] at o2; exact o2.elim
        | true =>
          simp only [hb, if_true] at o2
          obtain ⟨b1, hb2⟩ := Bool.and_eq_true_iff.mp hb
          obtain ⟨b2, b3⟩ := Bool.and_eq_true_iff.mp hb2
          obtain ⟨bs, h1, h2, h3, h4⟩ := trio_of rr eq
          subst h1
          refine ⟨_, bs, (·.1.1), (·.2), rfl, SqL.of hs, fun b hb => Rep.dp (h4 b hb).1 (h4 b hb).2, fun b hb => ?_, by rw [← h3]; exact alikeB_ok b2, by rw [← h3]; exact sortB_ok b3, ?_⟩
          · refine List.all_eq_true.mp b1 _ ?_
            rw [h3]
            exact List.mem_map.mpr ⟨b, hb, rfl⟩
          · have e2 : ((xs.zip es').mergeSort leD).map (·.1) = (bs.mergeSort (PySem.W.dataLe false (·.2))).map (·.1.2) := by
              rw [h2, ← List.map_mergeSort (r := PySem.W.dataLe false (·.2)) (s := leD) (f := fun b : (V × D) × PyData => (b.1.2, b.2)) (fun _ _ _ _ => rfl), List.map_map]
              rfl
            rw [e2] at o2
            exact out_new cv1 o2 (repL_map fun b hb => (h4 b ((List.mem_mergeSort).mp hb)).1)
  | [.non], _, o1 => exact o1.elim
  | [.bl _], _, o1 => exact o1.elim
  | [.int _], _, o1 => exact o1.elim
  | [.str _], _, o1 => exact o1.elim
  | [.tup _], _, o1 => exact o1.elim
  | [.scr _], _, o1 => exact o1.elim
  | [.obj _ _], _, o1 => exact o1.elim
  | [.rng _ _], _, o1 => exact o1.elim
  | [.exc _ _], _, o1 => exact o1.elim
  | [.sto], _, o1 => exact o1.elim
  | [], _, o1 => exact o1.elim
  | d :: _ :: _, _, o1 => cases d <;> exact o1.elim
end
end Den
set_option Elab.async false
set_option linter.all false
set_option maxRecDepth 100000
set_option maxHeartbeats 4000000
namespace Den
open PySem PySem.Spec PyProof.Rows L2
def dAddA : D → D → M D
  | .tup [], .tup ys => do lim ys.length; pure (.tup ys)
  | x, y => dAdd x y
def rCat0 (K : PySem.W.Frag) : R2 := fun x y H Q => ∃ a b ys, x = .ref a ∧ y = .ref b ∧ SqT K H a [] ∧ SqT K H b ys ∧ ys.length ≤ sizeLine ∧ Q (.ref b) H
theorem op_cat0 {X : Cx} : OpR X (binaryOp .Add) (rCat0 X.K) := by
  intro pins s σ H x y v u Q I rx ry ⟨a, b, ys, ex, ey, ha, hb, hz, q⟩
  exact op_catA pins s σ H x y v u Q I rx ry ⟨a, b, [], ys, ex, ey, ha, hb, by simpa using hz, fun _ => q, fun h => absurd rfl h, fun h => absurd rfl h⟩
theorem vr_addA {K : PySem.W.Frag} : VR2 K (fun x y H Q => rCat0 K x y H Q ∨ rAddD K x y H Q) dAddA := by
  intro xi st S H m x y dx dy Q E cv rx ry o
  by_cases h : (∃ ys, dx = .tup [] ∧ dy = .tup ys)
  · obtain ⟨ys, e1, e2⟩ := h
    subst e1 e2
    have o1 : Out K st S H ((do lim ys.length; pure (.tup ys) : M D) m) Q E := o
    obtain ⟨h2, o2⟩ := out_lim (P := fun r => Out K st S H r Q E) (fun z => z) o1
    have ry0 := ry
    cases rx with
    | tup hs r =>
      cases r
      cases ry with
      | tup hs' r' => exact .inl ⟨_, _, _, rfl, rfl, hs.sq, hs'.sq, by rw [r'.length]; exact h2, out_pure cv o2 ry0⟩
  · refine .inr (vr_add st S H m x y dx dy Q E cv rx ry ?_)
    have e : dAddA dx dy = dAdd dx dy := by
      unfold dAddA
      split
      · rename_i ys
        exact absurd ⟨ys, rfl, rfl⟩ h
      · rfl
    rw [← e]
    exact o
section
variable {X : Cx} {W : WX} {pos : Pos} {a b : Expr} {F G : EV → M D}
theorem xAddA (ha : SE X W a F) (hb : SE X W b G) : SE X W (.BinOp a .Add b pos) (f2 dAddA F G) := se_op dAddA (op_cat0.or op_addD) vr_addA ha hb
end
end Den
set_option Elab.async false
set_option linter.all false
set_option maxRecDepth 100000
set_option maxHeartbeats 4000000
namespace Den
open PySem PySem.Spec PyProof.Rows L2
end Den
set_option Elab.async false
set_option linter.all false
set_option maxRecDepth 100000
set_option maxHeartbeats 4000000
namespace Den
open PySem PySem.Spec PyProof.Rows L2
theorem bindsD {K : PySem.W.Frag} {x qual : Str} {params : Arguments} {body : List Stmt} {scope : Scope} {dvs : List V} {f : Addr} {fd : FuncData} {ps : List Str} (F : FunD K x qual params body scope dvs [] f fd) (hd : dvs ≠ [])
    (h : ∀ (T : Addr) (kV doc pm : Value) (an : Option Addr) (cdv ct : Value) (us its : List Value), us.length = ps.length → its.length = dvs.length →
      ∃ k, bindArgs (PySem.W.fnOf x qual params body scope (.ref T) kV doc pm an cdv ct) ⟨us, []⟩ = seqItems? (.ref T) >>= k ∧ k (some its.toArray) = pure (ps.zip us)) : Binds K fd ps [] := by
  obtain ⟨ds, h1, h2⟩ := F.binds1 (ps := ps) ps.length dvs.length hd (by omega) fun T kV doc pm an cdv ct us its hu hi => by
    obtain ⟨k, e1, e2⟩ := h T kV doc pm an cdv ct us its hu hi
    refine ⟨k, e1, ?_⟩
    rw [e2, List.drop_eq_nil_of_le (by omega), List.append_nil]
  rw [List.drop_length] at h1
  cases h1
  exact h2
structure CalD (P : Program) (w : World) (K : PySem.W.Frag) (mg : Str → Option Value) (base : Heap) (k : Nat) (x : Str) (params : Arguments) (body : List Stmt) (scope : Scope) (ps : List Str) (g : List D → M D) (dvs : List V) : Prop where
  ex : ∃ (f : Addr) (fd : FuncData), mg x = some (.ref f) ∧ FunD K x x params body scope dvs [] f fd ∧ Binds K fd ps [] ∧ FnOk P w K mg base (L2N.CX P w) k f fd ps (spOf K g)
section
variable {X : Cx} {W : WX} {p pos : Pos} {x : Str} {e : Expr} {es : List Expr} {A : EV → M (List D)} {k : Nat} {params : Arguments} {body : List Stmt} {scope : Scope} {ps : List Str} {g : List D → M D} {dvs : List V}
theorem xCallD (c : CalD X.prog X.w X.K X.mg X.base k x params body scope ps g dvs) (tk : Takes X W) (hr : Room k X.A) (ha : SA X W (e :: es) A) (hg : Gl X x := by rfl)
    (hdb : (x == ("__debug__" : Str)) = false := by decide) (he : starEach (e :: es) X.env = (false, eval e X.env) :: starEach es X.env := by rfl) (hpl : (backTo pos (starEach es X.env)).any (·.1) = false := by rfl) :
    SE X W (.Call (.Name x p) (e :: es) [] pos) (fL g A) := by
  obtain ⟨f, fd, h1, h2, h3, h4⟩ := c.ex
  exact se_call tk h4 hr hg h1 h2.kp h3 ha hdb he hpl
end
end Den
set_option Elab.async false
set_option linter.all false
set_option maxRecDepth 100000
set_option maxHeartbeats 4000000
namespace Den
open PySem PySem.Spec PyProof.Rows L2
end Den
set_option Elab.async false
set_option linter.all false
set_option maxRecDepth 100000
set_option maxHeartbeats 4000000
namespace L2
open PySem PySem.Spec PyProof.Rows
abbrev emO (w : World) : Obj := { cls := .type "set", dict := none, data := .set #[] 0 (.fresh 0 0 (!w.params.followText "set-order")) }
abbrev emH (w : World) (h : Heap) : Heap := h.push (emO w)
section
variable {P : Program} {w : World} {A : Around} {E : Value → Shared → Prop} {s : Shared}
set_option maxHeartbeats 8000000 in
theorem set_of_listI {p : Addr} {us : Array Value} (ks : List Int) {Q : Value → Shared → Prop} (quiet : A.handled = none) (isl : s.heap.IsList p us) (are : IntsAre us.toList ks) (room : ks.length + 1 < scanBound)
    (fin : ∀ (g : Heap) (tk c : Nat), SetR w g s.heap.objs.size (fun j => decide (j ∈ ks)) c → c ≤ ks.length → (∀ b o, s.heap.get? b = some o → g.get? b = some o) → Q (.ref s.heap.objs.size) { s with heap := g, toks := tk }) :
    wpAny (model P w) A (call (.type "set") [.ref p]) Q E s := by
  have len : us.size = ks.length := (Array.length_toList (xs := us)).symm.trans (IntsAre.length are)
  obtain ⟨c, tl, hmro⟩ := F.called_set.mro
  have m1 := F.called_set.made; have m2 := F.called_set.sub
  refine wpAny_call (codeAny_of_tree (show wpAny _ _ (callAny (.type "set") _) _ _ _ from ?_))
  refine wpAny_pure ⟨Code.quiet_builtin _ (by decide +kernel), codeAny_builtin F.entry_type_call (show _ from ?_)⟩
  rw [Around.under_plain (weight_type_call_type "set" [.ref p] []) (by rfl)]
  have m3 := F.called_set.notType; have m4 := F.called_set.canCreate; have m5 := F.typeCall_set_1 (.ref p)
  repeat (any_goals (first | assumption | (wp_step)))
  refine codeAny_mono (code_set_led1 (.ref p) (Q₁ := fun obj s₁ => obj = .ref s.heap.objs.size ∧ s₁ = { s with heap := emH w s.heap }) (E := E) ⟨rfl, rfl⟩) (fun r s₁ hr => ?_)
  rcases r with e | fl
  · exact hr
  rcases fl with _ | _ | _ | obj <;> first | exact hr.elim | skip
  obtain ⟨rfl, rfl⟩ := hr
  have gS : (emH w s.heap).get? s.heap.objs.size = some (emO w) := Heap.get?_push_size _ (by rfl)
  have tS : Shared.TypeIs { s with heap := emH w s.heap } (.ref s.heap.objs.size) "set" := ⟨_, gS, (by rfl)⟩
  have i1 := F.called_set.init.lookup; have i2 := F.called_set.init.bind (.ref s.heap.objs.size)
  repeat (any_goals (first | assumption | (wp_step)))
  refine codeAny_mono (codeAny_call_builtin (R := wants (fun r s₂ => r = .none ∧ ∃ g tk c, s₂ = { s with heap := g, toks := tk } ∧ SetR w g s.heap.objs.size (fun j => decide (j ∈ ks)) c ∧ c ≤ ks.length ∧ (∀ b o, s.heap.get? b = some o → g.get? b = some o)) E) F.called_set.init.plain F.entry_set_init (check_set_init_1 tS ?_)) (fun r₂ s₂ hr₂ => ?_)
  · obtain ⟨⟨cl, di, da, sl⟩, ho, hc, n, hd⟩ := isl
    simp only at hc hd; subst hc hd
    have ho2 := Heap.get?_push_of_some (emO w) ho
    have s1 := F.sub_list_set; have s2 := F.sub_list_frozenset
    have ne : (Value.type "list" == Value.type "dict") = false := by decide
    have isl2 : (emH w s.heap).IsList p us := ⟨_, ho2, rfl, n, rfl⟩
    have lt0 : p < s.heap.objs.size := Heap.lt_size ho
    have sz : (emH w s.heap).objs.size = s.heap.objs.size + 1 := Heap.size_push ..
    unfold Builtin.«set.__init__» noKeywords Builtin.Frozenset.updateFrom
    generalize hPI : pyIter = PI
    wp_walk
    subst hPI
    refine wpAny_pyIter_list isl2 (wpAny_bind (wpAny_runValue ?_))
    have q3 : A.in1.in1.in1.handled = none := by simp [quiet]
    have neI : p ≠ (emH w s.heap).objs.size := sz ▸ Nat.ne_of_lt (Nat.lt_succ_of_lt lt0)
    have away : s.heap.objs.size ∉ [(emH w s.heap).objs.size, p] := by
      rw [sz]; simp only [List.mem_cons, List.not_mem_nil, or_false, not_or]
      exact ⟨Nat.ne_of_lt (Nat.lt_succ_self _), (Nat.ne_of_lt lt0).symm⟩
    have vals : ∀ (i : Nat) (v : Value), us[i]? = some v → ∃ k t, ks[i]? = some k ∧ v = .int k t := fun i v hv => by
      have lt : i < ks.length := len ▸ (Array.getElem?_eq_some_iff.mp hv).1
      obtain ⟨t, e⟩ := IntsAre.int_at are i v ((Array.getElem?_toList ..).trans hv)
      exact ⟨ks[i], t, List.getElem?_eq_getElem lt, by rw [e, List.getD_eq_getElem?_getD, List.getElem?_eq_getElem lt]; rfl⟩
    refine set_update_ints ((Walks.list q3 _ p neI us).toS) s.heap.objs.size away ks len room vals (us.size - 0) 0 _ (by omega) (Nat.zero_le _) ⟨⟨_, Heap.get?_push_size _ rfl, rfl, rfl⟩, isl2.push _⟩ ⟨0, Nat.le_refl 0, setR_new_at (Heap.get?_push_of_some _ gS)⟩ (fun s' c' mv hc' R' => ?_)
    obtain ⟨g, g2, d2, tk2, os2⟩ := s'
    have eg : g2 = s.gens := mv.gens
    have ed : d2 = s.drawn := mv.drawn
    have eo : os2 = s.os := mv.os
    subst eg ed eo
    refine wpAny_pure (show wpAny _ _ (ret Value.none) _ _ _ from wpAny_pure ⟨rfl, g, tk2, c', rfl, R', len ▸ hc', fun b o e => ?_⟩)
    have lb : b < s.heap.objs.size := Heap.lt_size e
    refine mv.heap b o ?_ (Heap.get?_push_of_some _ (Heap.get?_push_of_some _ e))
    rw [sz]; simp only [List.mem_cons, List.not_mem_nil, or_false, not_or]
    exact ⟨Nat.ne_of_lt lb, Nat.ne_of_lt (Nat.lt_succ_of_lt lb)⟩
  · rcases r₂ with e | fl₂
    · exact hr₂
    rcases fl₂ with _ | _ | _ | r <;> first | exact hr₂.elim | skip
    obtain ⟨rfl, g, tk, c, rfl, R', hc', kp⟩ := hr₂
    repeat (any_goals (first | assumption | (wp_step)))
    exact fin _ _ _ R' hc' kp
end
end L2
set_option Elab.async false
set_option linter.all false
set_option maxRecDepth 100000
set_option maxHeartbeats 4000000
namespace L2
open PySem PySem.Spec PyProof.Rows PySem.W
section
variable {X : Cx}
/-- set(x) of whole numbers -/
def rSetI (K : PySem.W.Frag) (w : World) : List V → Hp → VK → Prop := fun xs H Q => ∃ (l : Addr) (ns : List Int), xs = [V.ref l] ∧ (SqL K H l (ns.map V.int) ∨ SqT K H l (ns.map V.int)) ∧ ns.length ≤ 1000 ∧
  ∀ p c, H p = none → (∃ ks : List Int, ks.Nodup ∧ ks.length = c ∧ ∀ j, j ∈ ks ↔ j ∈ ns) → Q (.ref p) (upd H p (SetO w p (fun j => decide (j ∈ ns)) c))
theorem cr_setI (hc : X.calm = true) : CallR X (.type "set") (rSetI X.K X.w) := by
  intro pins s σ H xs us Q I r h
  obtain ⟨l, ns, rfl, hl, hz, q⟩ := h
  rw [Vals.ref1 r]
  have hn : H s.heap.objs.size = none := I.hok.fresh (Nat.le_refl _)
  have fin : ∀ (g : Heap) (tk c : Nat), SetR X.w g s.heap.objs.size (fun j => decide (j ∈ ns)) c → c ≤ ns.length → (∀ b o, s.heap.get? b = some o → g.get? b = some o) → ∃ v H1, Inv X pins σ H1 { s with heap := g, toks := tk } ∧ RelV v (.ref s.heap.objs.size) ∧ Q v H1 := fun g tk c R hcn k =>
    ⟨.ref s.heap.objs.size, upd H s.heap.objs.size (SetO X.w s.heap.objs.size (fun j => decide (j ∈ ns)) c), I.laid (t' := tk) k (Nat.le_refl _) (setO_new R), rfl, q _ c hn (by
      obtain ⟨o, es, ep, t, _, _, _, _, nd, hm, _, _, hn2, _⟩ := R
      exact ⟨es.toList.map keyOf, nd, by rw [List.length_map, Array.length_toList]; exact hn2, fun j => by rw [← hm j, decide_eq_true_eq]⟩)⟩
  rcases hl with hl | hl
  · obtain ⟨its, rv, pl, hz2⟩ := I.list hl
    exact set_of_listI (P := X.prog) (w := X.w) ns (I.ok.hd hc) pl.isList (ints_of_vals rv) (by unfold scanBound; omega) fin
  · obtain ⟨its, rv, pt, hz2⟩ := I.tuple hl
    have hi : IntsAre its.toArray.toList ns := ints_of_vals rv
    exact call_set_tupI (P := X.prog) (w := X.w) ns (I.ok.hd hc) (show s.heap.IsTuple l its.toArray from pt) hi (by unfold scanBound; omega) fin
end
end L2
namespace Den
open PySem PySem.Spec PyProof.Rows L2
def insS (k : Int) : List Int → List Int
  | [] => [k]
  | x :: r => if k < x then k :: x :: r else if k = x then x :: r else x :: insS k r
def sset : List Int → List Int
  | [] => []
  | k :: ks => insS k (sset ks)
theorem insS_mem {k j : Int} : ∀ {l : List Int}, j ∈ insS k l ↔ j = k ∨ j ∈ l
  | [] => by simp [insS]
  | x :: r => by
    unfold insS
    split
    · simp
    · split
      · rename_i h1 h2
        subst h2
        simp
      · rw [List.mem_cons, insS_mem, List.mem_cons]
        constructor
        · rintro (h | h | h) <;> simp [h]
        · rintro (h | h | h) <;> simp [h]
theorem insS_ris {k : Int} : ∀ {l : List Int}, l.Pairwise (· < ·) → (insS k l).Pairwise (· < ·)
  | [], _ => by simp [insS]
  | x :: r, h => by
    obtain ⟨h1, h2⟩ := List.pairwise_cons.mp h
    unfold insS
    split
    · rename_i hk
      refine List.pairwise_cons.mpr ⟨fun y hy => ?_, h⟩
      rcases List.mem_cons.mp hy with e | hy
      · omega
      · have := h1 y hy; omega
    · split
      · exact h
      · rename_i a b
        refine List.pairwise_cons.mpr ⟨fun y hy => ?_, insS_ris h2⟩
        rcases insS_mem.mp hy with e | hy
        · omega
        · exact h1 y hy
theorem sset_mem {j : Int} : ∀ {l : List Int}, j ∈ sset l ↔ j ∈ l
  | [] => by simp [sset]
  | k :: ks => by rw [sset, insS_mem, sset_mem, List.mem_cons]
theorem sset_ris : ∀ {l : List Int}, (sset l).Pairwise (· < ·)
  | [] => by simp [sset]
  | k :: ks => by rw [sset]; exact insS_ris sset_ris
theorem ris_uniq : ∀ {a b : List Int}, a.Pairwise (· < ·) → b.Pairwise (· < ·) → (∀ k, k ∈ a ↔ k ∈ b) → a = b
  | [], [], _, _, _ => rfl
  | [], y :: b, _, _, h => absurd ((h y).mpr (by simp)) (by simp)
  | x :: a, [], _, _, h => absurd ((h x).mp (by simp)) (by simp)
  | x :: a, y :: b, ha, hb, h => by
    obtain ⟨a1, a2⟩ := List.pairwise_cons.mp ha
    obtain ⟨b1, b2⟩ := List.pairwise_cons.mp hb
    have e : x = y := by
      rcases List.mem_cons.mp ((h x).mp (by simp)) with e | e
      · exact e
      · rcases List.mem_cons.mp ((h y).mpr (by simp)) with e2 | e2
        · exact e2.symm
        · have := b1 x e; have := a1 y e2; omega
    subst e
    rw [ris_uniq a2 b2 fun k => ?_]
    have hk := h k
    rw [List.mem_cons, List.mem_cons] at hk
    constructor
    · intro q
      rcases hk.mp (.inr q) with e | e
      · have := a1 k q; omega
      · exact e
    · intro q
      rcases hk.mpr (.inr q) with e | e
      · have := b1 k q; omega
      · exact e
def dSSet1 (ds : List D) : M (List D) := match D.ints ds with
  | some ns => if ns.length ≤ 1000 ∧ (sset ns).length < 64 then pure ((sset ns).map .int) else M.bad
  | none => M.bad
def dSortSet : List D → M (List D)
  | [.lst xs] => dSSet1 xs
  | [.tup xs] => dSSet1 xs
  | [.scr ns] => dSSet1 (ns.map .int)
  | _ => M.bad
section
variable {X : Cx} {W : WX} {p p2 pos q0 : Pos} {e : Expr} {A : EV → M (List D)}
theorem sset_len {ns ks : List Int} (nd : ks.Nodup) (h : ∀ j, j ∈ ks ↔ j ∈ ns) : ks.length = (sset ns).length := by
  have n2 : (sset ns).Nodup := (sset_ris (l := ns)).imp fun h => Int.ne_of_lt h
  have : ks.Perm (sset ns) := (List.perm_ext_iff_of_nodup nd n2).mpr fun j => by rw [h j, sset_mem]
  exact this.length_eq
theorem lSortSet {k : Nat} (hr : Room k X.A) (hm : X.mg "sorted" = none) (hm2 : X.mg "set" = none) (hc : X.calm = true) (ha : SA X W [e] A) (hg : Gl X "sorted" := by rfl) (hg2 : Gl X "set" := by rfl) (he : starEach [e] X.env = (false, eval e X.env) :: starEach [] X.env := by rfl) (hpl : (backTo q0 (starEach [] X.env)).any (·.1) = false := by rfl)
    (he2 : starEach [.Call (.Name "set" p2) [e] [] q0] X.env = (false, eval (.Call (.Name "set" p2) [e] [] q0) X.env) :: starEach [] X.env := by rfl) (hpl2 : (backTo pos (starEach [] X.env)).any (·.1) = false := by rfl) :
    SF X W (.Call (.Name "sorted" p) [.Call (.Name "set" p2) [e] [] q0] [] pos) (lG dSortSet A) := by
  have inner : PE X (.Call (.Name "set" p2) [e] [] q0) _ := pe_callTy (cr_setI hc) hg2 hm2 PyProof.Rows.boot_set ha.pa (by decide) (by decide) he hpl
  refine .imp (pe_callB (cr_sortedSet hc) hg hm PyProof.Rows.boot_sorted (pa_cons inner pa_nil he2) (by decide) (by decide) he2 hpl2) fun σ H Q ⟨st, S, ρ, m, cv, er, o⟩ => ?_
  refine TAD.bindF (G := fun ds _ => dSortSet ds) cv er o fun vs ds m1 H1 c1 cv1 er1 r1 o1 => ?_
  have go : ∀ {a : Addr} {ws : List V} {xs : List D}, (∀ ns : List Int, ws = ns.map V.int → SqL X.K H1 a (ns.map V.int) ∨ SqT X.K H1 a (ns.map V.int)) → RepL X.K st S H1 ws xs → OutF X.K st S H1 (dSSet1 xs m1) Q (WE W σ) →
      rSetI X.K X.w [.ref a] H1 fun x H2 => tNil σ H2 fun zs H3 => rSortedSet X.w (x :: zs) H3 Q := fun {a ws xs} sq rr o2 => by
    unfold dSSet1 at o2
    cases eq : D.ints xs with
    | none => rw [eq] at o2; exact o2.elim
    | some ns =>
      rw [eq] at o2
      by_cases hb : ns.length ≤ 1000 ∧ (sset ns).length < 64
      · simp only [hb, and_self, if_true] at o2
        refine ⟨a, ns, rfl, sq ns (rep_ints rr eq), hb.1, fun b c hn ⟨ks, nd, hl, hk⟩ => ?_⟩
        have ec : c = (sset ns).length := by rw [← hl]; exact sset_len nd hk
        refine ⟨b, _, c, rfl, upd_same, by omega, fun zs l hs hz _ hl2 => ?_⟩
        have ez : zs = sset ns := ris_uniq hs sset_ris fun j => by rw [hz j, decide_eq_true_eq, sset_mem]
        subst ez
        have o3 := o2.chg (H1 := upd H1 b (SetO X.w b (fun j => decide (j ∈ ns)) c)) (Chg.new hn)
        exact out_new (cv1.new hn) o3 (repL_map fun j _ => .int j) l hl2
      · have hb2 : ¬ (ns.length ≤ 1000 ∧ (sset ns).length < 64) := hb
        simp only [hb2, if_false] at o2
        exact o2.elim
  match ds, r1, o1 with
  | [.lst xs], r1, o1 =>
    obtain ⟨v, rfl, rv⟩ := repL1 r1
    cases rv with
    | lst hn hs rr => exact go (fun ns e => by subst e; exact .inl (SqL.of hs)) rr o1
  | [.tup xs], r1, o1 =>
    obtain ⟨v, rfl, rv⟩ := repL1 r1
    cases rv with
    | tup ht rr => exact go (fun ns e => by subst e; exact .inr ht.sq) rr o1
  | [.scr ns], r1, o1 =>
    obtain ⟨v, rfl, rv⟩ := repL1 r1
    cases rv with
    | scr hf => exact go (ws := ns.map V.int) (fun ns' e => by rw [← e]; exact .inl hf.sq) (repL_map fun j _ => .int j) o1
  | [.non], _, o1 => exact o1.elim
  | [.bl _], _, o1 => exact o1.elim
  | [.int _], _, o1 => exact o1.elim
  | [.str _], _, o1 => exact o1.elim
  | [.obj _ _], _, o1 => exact o1.elim
  | [.rng _ _], _, o1 => exact o1.elim
  | [.exc _ _], _, o1 => exact o1.elim
  | [.sto], _, o1 => exact o1.elim
  | [], _, o1 => exact o1.elim
  | d :: _ :: _, _, o1 => cases d <;> exact o1.elim
end
end Den
set_option Elab.async false
set_option linter.all false
set_option maxRecDepth 100000
set_option maxHeartbeats 4000000
namespace Den
open PySem PySem.Spec PyProof.Rows L2
def wipeE (ρ : EV) : List Nat → EV
  | [] => ρ
  | v :: vs => (wipeE ρ vs).set v none
theorem wipe_at (σ : L2.St) : ∀ (vs : List Nat) (k : Nat), (wipe σ vs)[k]? = if k ∈ vs then (if k < σ.length then some none else none) else σ[k]?
  | [], k => by simp [wipe]
  | v :: vs, k => by
    show ((wipe σ vs).set v none)[k]? = _
    by_cases h : k = v
    · subst h
      rw [List.getElem?_set]
      simp [wipe_length]
    · rw [List.getElem?_set_ne (Ne.symm h), wipe_at σ vs k]
      simp [h]
theorem wipe_in {σ : L2.St} {vs : List Nat} {i : Nat} {x : Option V} (hi : i ∈ vs) : wipe ((wipe σ vs).set i x) vs = wipe σ vs := by
  refine List.ext_getElem? fun k => ?_
  rw [wipe_at, wipe_at]
  by_cases h : k ∈ vs
  · simp [h, wipe_length]
  · have hk : i ≠ k := fun e => h (e ▸ hi)
    simp only [h, if_false]
    rw [List.getElem?_set_ne hk, wipe_at]
    simp [h]
theorem EnvR.wipes {K : PySem.W.Frag} {xi : XI} {st : Stx xi} {S : Addr → Prop} {H : Hp} {σ : L2.St} {ρ : EV} (e : EnvR K st S H σ ρ) : ∀ vs : List Nat, EnvR K st S H (wipe σ vs) (wipeE ρ vs)
  | [] => e
  | v :: vs => ⟨fun i d h => by
    replace h : ((wipeE ρ vs).set v none)[i]? = some (some d) := h
    by_cases hi : i = v
    · subst hi
      have hl : i < (wipeE ρ vs).length := by
        have := (List.getElem?_eq_some_iff.mp h).1
        simpa using this
      rw [List.getElem?_set_self hl] at h
      cases h
    · rw [List.getElem?_set_ne (Ne.symm hi)] at h
      obtain ⟨u, e1, e2⟩ := (EnvR.wipes e vs).at_ i d h
      refine ⟨u, ?_, e2⟩
      show ((wipe σ vs).set v none)[i]? = _
      rw [List.getElem?_set_ne (Ne.symm hi)]
      exact e1⟩
/-- the outer name's store: the block's other names are empty -/
def eNameW (i : Nat) (vs : List Nat) : D → EV → Option EV := fun d ρ => some ((wipeE ρ vs).set i (some d))
theorem bndE_nameW {K : PySem.W.Frag} {i : Nat} {vs : List Nat} (hi : i ∈ vs) : BndE false K (gName i) vs (eNameW i vs) := fun st S H σ ρ ρ1 v d Q hl e r h q => by
  cases h
  refine q _ (wipe_in hi) (EnvR.set (σ := wipe σ vs) (e.wipes vs) r (fun k hk => ?_) (fun hk => ?_) (by rw [wipe_length]; exact hl i hi))
  · rw [List.getElem?_set_ne (Ne.symm hk)]
  · rw [List.getElem?_set_self hk]
def comp2L (bnd bnd1 : D → EV → Option EV) (J : EV → M (List D)) (C : EV → M Bool) (E : EV → M D) (ρ : EV) : List D → M (List D)
  | [] => pure []
  | d :: ds => do
    let ρ1 ← bindE bnd d ρ
    let es ← noErr (J ρ1)
    need (decide (es.length ≤ 4000))
    let ys ← compL bnd1 C E ρ1 es
    let r ← comp2L bnd bnd1 J C E ρ ds
    pure (ys ++ r)
def comp2V (bnd bnd1 : D → EV → Option EV) (I J : EV → M (List D)) (C : EV → M Bool) (E : EV → M D) (ρ : EV) : M (List D) := do
  let ds ← I ρ
  need (decide (ds.length ≤ 4000))
  comp2L bnd bnd1 J C E ρ ds
theorem out_needF {K : PySem.W.Frag} {xi : XI} {st : Stx xi} {S : Addr → Prop} {H : Hp} {b : Bool} {f : Unit → M (List D)} {m : SM} {Q : VK} {E : XK} (o : OutF K st S H ((need b >>= f) m) Q E) : b = true ∧ OutF K st S H (f () m) Q E := by
  unfold need at o
  cases b with
  | true => exact ⟨rfl, o⟩
  | false => exact o.elim
theorem lc2_imp {pr1 : Bool} {xi : XI} {K : PySem.W.Frag} {W : WX} {I J : EV → M (List D)} {C : EV → M Bool} {E : EV → M D} {bnd bnd1 : D → EV → Option EV} {g g1 : TG} {vs vs1 : List Nat} {σ : L2.St} {H : Hp} {Q : VK} (hi : ∀ i ∈ vs, i < σ.length) (hv : ∀ i ∈ vs1, i ∈ vs) (hb : BndE false K g vs bnd) (hb1 : BndE pr1 K g1 vs1 bnd1)
    (h : TF xi K W (comp2V bnd bnd1 I J C E) σ H Q) : tLc2 (TID false xi K W I) g (TT xi K W0 tYes) (TID pr1 xi K W0 J) g1 (TT xi K W0 C) (TE xi K W0 E) vs vs1 σ H Q := by
  obtain ⟨st, S, ρ, m, cv, er, o⟩ := h
  refine ⟨st, S, ρ, m, cv, er, ?_⟩
  unfold comp2V at o
  rw [bind_run] at o
  cases e : I ρ m with
  | bad => rw [e] at o; exact o.elim
  | err c fs m1 => rw [e] at o; exact o
  | ok ds m1 =>
    rw [e] at o
    intro JJ vs0 ds0 H1 c1 cv1 r0 wd P hP
    obtain ⟨hz, o1⟩ := out_needF o
    have hz := of_decide_eq_true hz
    clear o e
    have er1 : EnvR K st S H1 σ ρ := er.mono c1 cv.sub
    have o2 : OutF K st S H1 (comp2L bnd bnd1 J C E ρ ds m1) Q (WE W σ) := OutF.chg o1 c1
    clear o1
    have hPS : ¬ S P := cv1.out hP
    refine ⟨fun j n Hc => n = ds.length - j ∧ j ≤ ds.length ∧ ∃ acc accD mm, Chg (fun a => atSt st a ∨ a = P) (upd H1 P (.lst [])) Hc ∧ Cov K st S Hc mm ∧ Hc P = some (.lst acc) ∧ RepL K st (fun a => S a ∨ a = P) Hc acc accD ∧
      EnvR K st (fun a => S a ∨ a = P) Hc σ ρ ∧ RepL K st (fun a => S a ∨ a = P) Hc vs0 ds0 ∧ acc.length ≤ 4000 * j ∧ OutF K st S H1 ((comp2L bnd bnd1 J C E ρ (ds.drop j) >>= fun r => pure (accD ++ r)) mm) Q (WE W σ), ?_, ?_⟩
    · have hw : ∀ a, (S a ∨ a = P) → S a ∨ H1 a = none := fun a z => z.imp id fun q => by rw [q]; exact hP
      refine ⟨ds.length, by simp, Nat.zero_le _, [], [], m1, Chg.refl _, cv1.new hP, upd_same, .nil, (er1.wide hw).mono (Chg.new (B := noB) hP) fun _ z => z.elim, (r0.wide hw).new hP, Nat.zero_le _, ?_⟩
      rw [List.drop_zero]
      show OutF K st S H1 ((comp2L bnd bnd1 J C E ρ ds >>= fun r => pure r) m1) Q (WE W σ)
      rw [bind_pure]
      exact o2
    · rintro j n Hc ⟨rfl, hj, acc, accD, mm, cc, cvc, hac, rac, erc, r0c, hlen, oc⟩
      have nSt : ∀ {P' : Prop}, atSt st P → P' := fun z => (hPS (cv1.sub P z)).elim
      have B3 : ∀ {H : Hp} {mm : SM}, Cov K st S H mm → ∀ a, (atSt st a ∨ a = P) → S a ∨ a = P := fun cv a z => z.imp (cv.sub a) id
      by_cases hlt : j < ds.length
      · refine .inr ⟨wd.goes _ Hc j hlt r0c, _, fun H' p' => ⟨ds.length - (j + 1), by omega, rfl, hlt, p'⟩, fun x H' y => ?_⟩
        obtain ⟨d, hd, cy, rx⟩ := wd.yields _ Hc j x H' hlt r0c y
        have hdrop : ds.drop j = d :: ds.drop (j + 1) := by
          obtain ⟨h1, h2⟩ := List.getElem?_eq_some_iff.mp hd
          rw [← h2, List.drop_eq_getElem_cons h1]
        rw [hdrop] at oc
        have dom' : ∀ a, (S a ∨ a = P) → Hc a ≠ none := fun a z => z.elim (cvc.dom a) fun q => by rw [q, hac]; simp
        have cvw : Cov K st (fun a => S a ∨ a = P) H' mm := (cvc.wide (fun a z => .inl z) dom').keep cy fun _ z => z.elim
        have sub' : ∀ a, atSt st a → S a ∨ a = P := fun a z => .inl (cvc.sub a z)
        rw [comp2L, bind_assoc, bind_run] at oc
        cases hbn : bnd d ρ with
        | none => rw [show bindE bnd d ρ mm = R.bad from by unfold bindE; rw [hbn]; rfl] at oc; exact oc.elim
        | some ρ1 =>
        rw [show bindE bnd d ρ mm = R.ok ρ1 mm from by unfold bindE; rw [hbn]; rfl] at oc
        replace oc : OutF K st S H1 (((noErr (J ρ1) >>= fun es => need (decide (es.length ≤ 4000)) >>= fun _ => compL bnd1 C E ρ1 es >>= fun ys => comp2L bnd bnd1 J C E ρ (ds.drop (j + 1)) >>= fun r => pure (ys ++ r)) >>= fun r => pure (accD ++ r)) mm) Q (WE W σ) := oc
        refine hb st _ H' σ ρ ρ1 x d _ hi (erc.mono cy fun _ z => z.elim) rx hbn fun σ2 hw2 ery => ?_
        refine ⟨hw2, ?_⟩
        refine ⟨st, _, ρ1, mm, cvw, ery, ?_⟩
        intro H3 c3 cv3
        rw [if_pos rfl]
        refine ⟨st, _, ρ1, mm, cv3, ery.mono c3 sub', ?_⟩
        rw [bind_assoc, bind_run] at oc
        have hl2 : ∀ i ∈ vs1, i < σ2.length := fun i h => by
          have q := congrArg List.length hw2
          rw [wipe_length, wipe_length] at q
          rw [q]; exact hi i (hv i h)
        rcases noErr_cases (J ρ1) mm with ⟨es, m2, e1, e2⟩ | e2
        · rw [e2] at oc
          rw [e1]
          replace oc : OutF K st S H1 ((need (decide (es.length ≤ 4000)) >>= fun _ => ((compL bnd1 C E ρ1 es >>= fun ys => comp2L bnd bnd1 J C E ρ (ds.drop (j + 1)) >>= fun r => pure (ys ++ r)) >>= fun r => pure (accD ++ r))) m2) Q (WE W σ) := by
            rw [← bind_assoc]; exact oc
          obtain ⟨hes, oc⟩ := out_needF oc
          have hes := of_decide_eq_true hes
          intro J1 ws es0 H4 c4 cv4 r1 wd1
          have c14 : Chg (fun a => atSt st a ∨ a = P) Hc H4 := ((cy.mono fun _ z => z.elim).trans (c3.mono fun _ z => .inl z)).trans (c4.mono fun _ z => .inl z)
          have cvS4 : Cov K st S H4 m2 := cvc.swap c14 cv4
          have hac4 : H4 P = some (.lst acc) := c4.keep (c3.keep (cy.keep hac (.inr fun z => z)) (.inr fun z => nSt z)) (.inr fun z => nSt z)
          refine ⟨fun k n Hd => n = es.length - k ∧ k ≤ es.length ∧ ∃ acc accD mm, Chg (fun a => atSt st a ∨ a = P) (upd H1 P (.lst [])) Hd ∧ Cov K st S Hd mm ∧ Hd P = some (.lst acc) ∧ RepL K st (fun a => S a ∨ a = P) Hd acc accD ∧
            EnvR K st (fun a => S a ∨ a = P) Hd σ ρ ∧ EnvR K st (fun a => S a ∨ a = P) Hd σ2 ρ1 ∧ RepL K st (fun a => S a ∨ a = P) Hd vs0 ds0 ∧ RepL K st (fun a => S a ∨ a = P) Hd ws es0 ∧ acc.length ≤ 4000 * j + k ∧
            OutF K st S H1 ((compL bnd1 C E ρ1 (es.drop k) >>= fun ys => comp2L bnd bnd1 J C E ρ (ds.drop (j + 1)) >>= fun r => pure (accD ++ (ys ++ r))) mm) Q (WE W σ), ?_, ?_⟩
          · refine ⟨es.length, by simp, Nat.zero_le _, acc, accD, m2, cc.trans c14, cvS4, hac4, rac.mono c14 (B3 cvc) fun _ z => z, erc.mono c14 (B3 cvc), ?_, r0c.mono c14 (B3 cvc) fun _ z => z, r1, hlen, ?_⟩
            · exact (ery.mono c3 sub').mono c4 sub'
            · rw [List.drop_zero]
              simp only [bind_assoc, pure_bind] at oc
              exact oc
          · clear oc cvS4 hac4 c14
            rintro k n Hd ⟨rfl, hk, acc, accD, mm, cc, cvc, hac, rac, erc, ery, r0c, r1c, hlen, oc⟩
            by_cases hlt2 : k < es.length
            · refine .inr ⟨wd1.goes _ Hd k hlt2 r1c, _, fun H' p' => ⟨es.length - (k + 1), by omega, rfl, hlt2, p'⟩, fun x H' y => ?_⟩
              obtain ⟨d, hd, cy, rx⟩ := wd1.yields _ Hd k x H' hlt2 r1c y
              have hdrop : es.drop k = d :: es.drop (k + 1) := by
                obtain ⟨h1, h2⟩ := List.getElem?_eq_some_iff.mp hd
                rw [← h2, List.drop_eq_getElem_cons h1]
              rw [hdrop] at oc
              have dom' : ∀ a, (S a ∨ a = P) → Hd a ≠ none := fun a z => z.elim (cvc.dom a) fun q => by rw [q, hac]; simp
              have cvw : Cov K st (fun a => S a ∨ a = P) H' mm := (cvc.wide (fun a z => .inl z) dom').keep cy fun _ z => z.elim
              have sub' : ∀ a, atSt st a → S a ∨ a = P := fun a z => .inl (cvc.sub a z)
              rw [compL, bind_assoc, bind_run] at oc
              cases hbn : bnd1 d ρ1 with
              | none => rw [show bindE bnd1 d ρ1 mm = R.bad from by unfold bindE; rw [hbn]; rfl] at oc; exact oc.elim
              | some ρ2 =>
              rw [show bindE bnd1 d ρ1 mm = R.ok ρ2 mm from by unfold bindE; rw [hbn]; rfl] at oc
              replace oc : OutF K st S H1 (((noErr (C ρ2) >>= fun b => if b = true then (noErr (E ρ2) >>= fun y => compL bnd1 C E ρ1 (es.drop (k + 1)) >>= fun r => pure (y :: r)) else compL bnd1 C E ρ1 (es.drop (k + 1))) >>= fun ys => comp2L bnd bnd1 J C E ρ (ds.drop (j + 1)) >>= fun r => pure (accD ++ (ys ++ r))) mm) Q (WE W σ) := oc
              refine hb1 st _ H' σ2 ρ1 ρ2 x d _ hl2 (ery.mono cy fun _ z => z.elim) rx hbn fun σ3 hw3 ery3 => ?_
              refine ⟨hw3, ?_⟩
              refine ⟨st, _, ρ2, mm, cvw, ery3, ?_⟩
              rw [bind_assoc, bind_run] at oc
              rcases noErr_cases (C ρ2) mm with ⟨b, m2, e1, e2⟩ | e2
              · rw [e2] at oc
                rw [e1]
                intro H3 c3 cv3
                have c13 : Chg (fun a => atSt st a ∨ a = P) Hd H3 := (cy.mono fun _ z => z.elim).trans (c3.mono fun _ z => .inl z)
                have cvS3 : Cov K st S H3 m2 := cvc.swap c13 cv3
                have hac3 : H3 P = some (.lst acc) := c3.keep (cy.keep hac (.inr fun z => z)) (.inr fun z => nSt z)
                cases b with
                | false =>
                  exact ⟨acc, accD, m2, cc.trans c13, cvS3, hac3, rac.mono c13 (B3 cvc) fun _ z => z, erc.mono c13 (B3 cvc), ery.mono c13 (B3 cvc), r0c.mono c13 (B3 cvc) fun _ z => z, r1c.mono c13 (B3 cvc) fun _ z => z, Nat.le_succ_of_le hlen, oc⟩
                | true =>
                  replace oc : OutF K st S H1 (((noErr (E ρ2) >>= fun y => compL bnd1 C E ρ1 (es.drop (k + 1)) >>= fun r => pure (y :: r)) >>= fun ys => comp2L bnd bnd1 J C E ρ (ds.drop (j + 1)) >>= fun r => pure (accD ++ (ys ++ r))) m2) Q (WE W σ) := oc
                  simp only [bind_assoc, pure_bind] at oc
                  refine ⟨st, _, ρ2, m2, cv3, ery3.mono c3 sub', ?_⟩
                  rw [bind_run] at oc
                  rcases noErr_cases (E ρ2) m2 with ⟨yD, m3, e3, e4⟩ | e4
                  · rw [e4] at oc
                    rw [e3]
                    intro yv H4 c4 cv4 ry
                    have c14 : Chg (fun a => atSt st a ∨ a = P) Hd H4 := c13.trans (c4.mono fun _ z => .inl z)
                    have hac4 : H4 P = some (.lst acc) := c4.keep hac3 (.inr fun z => nSt z)
                    have cw : Chg (fun a => a = P) H4 (upd H4 P (.lst (acc ++ [yv]))) := Chg.write hac4 rfl rfl
                    have c15 : Chg (fun a => atSt st a ∨ a = P) Hd (upd H4 P (.lst (acc ++ [yv]))) := c14.trans (cw.mono fun _ z => .inr z)
                    refine ⟨acc, hac4, ?_, acc ++ [yv], accD ++ [yD], m3, cc.trans c15, ?_, upd_same, (rac.mono c15 (B3 cvc) fun _ z => z).append (.cons (ry.mono cw (fun a z => .inr z) fun _ z => z) .nil), erc.mono c15 (B3 cvc), ery.mono c15 (B3 cvc), r0c.mono c15 (B3 cvc) fun _ z => z, r1c.mono c15 (B3 cvc) fun _ z => z, ?_, ?_⟩
                    · rw [sizeLine_eq]; omega
                    · exact (cvc.swap c14 cv4).keep cw fun a z => by rw [z]; exact hPS
                    · rw [List.length_append]; simp; omega
                    · simp only [List.append_assoc, List.singleton_append, List.cons_append]
                      exact oc
                  · rw [e4] at oc; exact oc.elim
              · rw [e2] at oc; exact oc.elim
            · have ek : k = es.length := by omega
              subst ek
              refine .inl ⟨wd1.stops _ Hd r1c, acc, accD, mm, cc, cvc, hac, rac, erc, r0c, by omega, ?_⟩
              rw [List.drop_length, compL, pure_bind] at oc
              exact oc
        · rw [e2] at oc; exact oc.elim
      · have ej : j = ds.length := by omega
        subst ej
        refine .inl ⟨wd.stops _ Hc r0c, ?_⟩
        rw [List.drop_length, comp2L, pure_bind, List.append_nil] at oc
        have cf : Chg (atSt st) H1 Hc := fun a u e => by
          have ne : a ≠ P := ne_of_none e hP
          rcases cc a u (by rw [upd_ne ne]; exact e) with q | ⟨q, r⟩
          · exact .inl q
          · exact .inr ⟨q.elim id fun z => (ne z).elim, r⟩
        exact oc P acc Hc hP cf cvc hac rac
end Den
set_option Elab.async false
set_option linter.all false
set_option maxRecDepth 100000
set_option maxHeartbeats 4000000
namespace Den
open PySem PySem.Spec PyProof.Rows L2
section
variable {X : Cx} {W : WX} {pos p : Pos}
theorem sf_lc2G {pr1 : Bool} {bnd bnd1 : D → EV → Option EV} {g g1 : TG} {own : List (Str × Nat)} {vs1 : List Nat} {elt tg iter tg1 iter1 : Expr} {ifs1 : List Expr} {scope : Scope} {I J : EV → M (List D)} {C : EV → M Bool} {E : EV → M D} (hc : X.calm = true) (hN : X.N.Nodup) (hi : ∀ i ∈ own.map (·.2), i < X.N.length) (hI : SI false X W tg iter I) (ok : BlkOk X.N X.env.scope scope own) (hv : ∀ i ∈ vs1, i ∈ own.map (·.2))
    (hb : BndE false X.K g (own.map (·.2)) bnd) (hb1 : BndE pr1 X.K g1 vs1 bnd1)
    (hg : ∀ (s : Shared) (H : Hp) (C : Addr) (cl : List (Str × Addr)) (fp : List Addr), PG (X.blk s H scope (compEnvC scope cl C X.env) fp) tg g)
    (hJ : ∀ (s : Shared) (H : Hp) (D : Addr) (cl : List (Str × Addr)) (fp : List Addr), SI pr1 (X.blk s H scope (compEnvC scope cl D X.env) fp) W0 tg1 iter1 J)
    (hg1 : ∀ (s : Shared) (H : Hp) (C : Addr) (cl : List (Str × Addr)) (fp : List Addr), PG (X.blk s H scope (compEnvC scope cl C X.env) fp) tg1 g1)
    (ht1 : ∀ (s : Shared) (H : Hp) (D : Addr) (cl : List (Str × Addr)) (fp : List Addr), STs (X.blk s H scope (compEnvC scope cl D X.env) fp) W0 ifs1 C)
    (he : ∀ (s : Shared) (H : Hp) (D : Addr) (cl : List (Str × Addr)) (fp : List Addr), SE (X.blk s H scope (compEnvC scope cl D X.env) fp) W0 elt E)
    (hs : ∀ x, foldedSetIterable iter X.env x = pure x := by intro _; rfl) (hs1 : ∀ env x, foldedSetIterable iter1 env x = pure x := by intro _ _; rfl) :
    SF X W (.ListComp elt [⟨tg, iter, [], 0⟩, ⟨tg1, iter1, ifs1, 0⟩] scope pos) (comp2V bnd bnd1 I J C E) := by
  refine ⟨⟨fun pins s σ H Q Iv q => ?_⟩⟩
  have e0 := Iv.ok.hd hc
  rw [xi_none e0] at q
  have bx : ∀ (s : Shared) (H : Hp) (D : Addr) (cl : List (Str × Addr)) (fp : List Addr), (X.blk s H scope (compEnvC scope cl D X.env) fp).xi = none := fun s H D cl fp => xi_none (show (X.blk s H scope (compEnvC scope cl D X.env) fp).A.handled = none from e0)
  refine (pe_lc2 (own := own) (vs1 := vs1) (tt := TT none X.K W0 tYes) (tt1 := TT none X.K W0 C) (te := TE none X.K W0 E) (g := g) (g1 := g1) (wi1 := TID pr1 none X.K W0 J) hc hN hI.pi ok hv hg (fun s H D cl fp => by
      have z := (sts_nil (X := X.blk s H scope (compEnvC scope cl D X.env) fp) (W := W0)).pt
      rw [bx] at z; exact z) (fun s H D cl fp => by
      have z := (hJ s H D cl fp).pi
      rw [bx] at z; exact z) hg1 (fun s H D cl fp => by
      have z := (ht1 s H D cl fp).pt
      rw [bx] at z; exact z) (fun s H D cl fp => by
      have z := (he s H D cl fp).pe
      rw [bx] at z; exact z) hs hs1).run pins s σ H Q Iv ?_
  rw [xi_none e0]
  exact lc2_imp (by rw [Iv.len]; exact hi) hv hb hb1 q
section
variable {x y y2 : Str} {px py py2 : Pos} {elt iter iter1 : Expr} {ifs1 : List Expr} {scope : Scope} {I J : EV → M (List D)} {C : EV → M Bool} {E : EV → M D}
theorem lLc2 (i j : Nat) (hc : X.calm = true) (hN : X.N.Nodup) (hI : SI false X W (.Name x px) iter I)
    (hJ : ∀ (s : Shared) (H : Hp) (D : Addr) (cl : List (Str × Addr)) (fp : List Addr), SI false (X.blk s H scope (compEnvC scope cl D X.env) fp) W0 (.Name y py) iter1 J)
    (ht : ∀ (s : Shared) (H : Hp) (D : Addr) (cl : List (Str × Addr)) (fp : List Addr), STs (X.blk s H scope (compEnvC scope cl D X.env) fp) W0 ifs1 C)
    (he : ∀ (s : Shared) (H : Hp) (D : Addr) (cl : List (Str × Addr)) (fp : List Addr), SE (X.blk s H scope (compEnvC scope cl D X.env) fp) W0 elt E)
    (ok : blkC X.N X.env.scope scope [(x, i), (y, j)] = true := by kernel_rfl) (hx : X.N[i]? = some x := by rfl) (hy : X.N[j]? = some y := by rfl)
    (hg : ∀ (s : Shared) (H : Hp) (D : Addr) (cl : List (Str × Addr)) (fp : List Addr), PG (X.blk s H scope (compEnvC scope cl D X.env) fp) (.Name x px) (gName i) := by
      first | exact fun _ _ _ _ _ => pg_name (by assumption) rfl (Or.inl rfl) (Or.inr rfl) | exact fun _ _ _ _ _ => pg_name (by assumption) rfl (Or.inr rfl) (Or.inl rfl))
    (hg1 : ∀ (s : Shared) (H : Hp) (D : Addr) (cl : List (Str × Addr)) (fp : List Addr), PG (X.blk s H scope (compEnvC scope cl D X.env) fp) (.Name y py) (gName j) := by
      first | exact fun _ _ _ _ _ => pg_name (by assumption) rfl (Or.inl rfl) (Or.inr rfl) | exact fun _ _ _ _ _ => pg_name (by assumption) rfl (Or.inr rfl) (Or.inl rfl))
    (hs : ∀ x, foldedSetIterable iter X.env x = pure x := by intro _; rfl) (hs1 : ∀ env x, foldedSetIterable iter1 env x = pure x := by intro _ _; rfl) :
    SF X W (.ListComp elt [⟨.Name x px, iter, [], 0⟩, ⟨.Name y py, iter1, ifs1, 0⟩] scope pos) (comp2V (eNameW i [i, j]) (eName j) I J C E) :=
  sf_lc2G (own := [(x, i), (y, j)]) (vs1 := [j]) hc hN (fun q hq => by
    simp at hq
    rcases hq with e | e
    · rw [e]; exact lt_of_at hx
    · rw [e]; exact lt_of_at hy) hI (blkOk_by ok) (fun q hq => by simp at hq; simp [hq]) (bndE_nameW (by simp)) bndE_name hg hJ hg1 ht he hs hs1
end
end
end Den
set_option Elab.async false
set_option linter.all false
set_option maxRecDepth 100000
set_option maxHeartbeats 4000000
namespace Den
open PySem PySem.Spec PyProof.Rows L2
structure CalW (P : Program) (w : World) (K : PySem.W.Frag) (mg : Str → Option Value) (base : Heap) (k : Nat) (x : Str) (params : Arguments) (body : List Stmt) (scope : Scope) (kw0 : List (Str × V)) (ps : List Str) (g : List D → M D) : Prop where
  ex : ∃ (f : Addr) (fd : FuncData), mg x = some (.ref f) ∧ FunD K x x params body scope [] kw0 f fd ∧ FnOk P w K mg base (L2N.CX P w) k f fd ps (spOf K g)
section
variable {X : Cx} {W : WX} {p pos tp apos : Pos} {x c m : Str} {e : Expr} {es : List Expr} {kws : List Keyword} {A Ak : EV → M (List D)} {k : Nat} {params : Arguments} {body : List Stmt} {scope : Scope} {ps : List Str} {g : List D → M D}
theorem xCallW {kw0 : List (Str × V)} (cc : CalW X.prog X.w X.K X.mg X.base k x params body scope kw0 ps g) (n : Nat) (ks : List Str) (pl : List Nat) (ms : List (Str × V)) (cd : List D) (hk : kw0 ≠ []) (hms : ∀ z ∈ ms, z ∈ kw0) (hcs : Paired CV (ms.map (·.2)) cd)
    (hb : ∀ (D : Addr) (doc pm : Value) (an : Option Addr) (cdv ct : Value) (us mv ws : List Value), us.length = n → mv.length = ms.length → ws.length = ks.length →
      KwChain D ((ms.map (·.1)).zip mv) (bindArgs (PySem.W.fnOf x x params body scope .none (.ref D) doc pm an cdv ct) ⟨us, ks.zip ws⟩) (ps.zip (pick pl (us ++ (ws ++ mv)))))
    (tk : Takes X W) (hr : Room k X.A) (ha : SA X W (e :: es) A) (hkw : SK X W kws Ak) (hg : Gl X x := by rfl) (hall : (backToKw pos (keywordEach kws X.env)).all (·.1.isSome) = true := by rfl) (hks : (backToKw pos (keywordEach kws X.env)).filterMap (·.1) = ks := by rfl) (hdb : (x == ("__debug__" : Str)) = false := by decide)
    (he : starEach (e :: es) X.env = (false, eval e X.env) :: starEach es X.env := by rfl) (hpl : ((backTo pos (starEach (e :: es) X.env)).any (·.1) || (backToKw pos (keywordEach kws X.env)).any (·.1.isNone)) = false := by rfl) :
    SE X W (.Call (.Name x p) (e :: es) kws pos) (gCallK g A Ak n ks.length pl cd) := by
  obtain ⟨f, fd, h1, h2, h4⟩ := cc.ex
  exact se_callK tk h4 hr hg h1 h2.kp (kb_kwo h2 n ks ms pl hk hms hb) hcs ha hkw hall hks hdb he hpl
end
end Den
set_option Elab.async false
set_option linter.all false
set_option maxRecDepth 100000
set_option maxHeartbeats 4000000
namespace Den
open PySem PySem.Spec PyProof.Rows L2 He
end Den
set_option Elab.async false
set_option linter.all false
set_option maxRecDepth 100000
set_option maxHeartbeats 4000000
namespace L2
open PySem PySem.Spec PyProof.Rows PySem.W
section
variable {prog : Program} {w : World} {A : Around} {E : Value → Shared → Prop} {s : Shared}
theorem mapM_by {M : Model} {α β : Type} {f : α → Sem β} {r : α → β} : ∀ (l : List α) {Q : List β → Shared → Prop}, (∀ v ∈ l, ∀ (Q' : β → Shared → Prop), Q' (r v) s → wpAny M A (f v) Q' E s) → Q (l.map r) s → wpAny M A (l.mapM f) Q E s
  | [], _, _, h => by rw [List.mapM_nil]; exact wpAny_pure h
  | x :: l, Q, hf, h => by
    rw [List.mapM_cons]
    exact wpAny_bind (hf x (.head _) _ (wpAny_bind (mapM_by l (Q := fun bs s' => wpAny M A (pure (r x :: bs)) Q E s') (fun v hv => hf v (.tail _ hv)) (wpAny_pure h))))
/-- the first item, where there is one -/
def headOf (h : Heap) (v : Value) : Option Value := match v with
  | .ref a => (match h.get? a with
    | some o => (match o.data with
      | .seq xs _ => xs[0]?
      | _ => none)
    | none => none)
  | _ => none
theorem headOf_at {h : Heap} {v : Value} {ns : List Int} (t : TS.TupInts h v ns) : (ns = [] → headOf h v = none) ∧ (ns ≠ [] → ∃ x tk, headOf h v = some (.int x tk)) := by
  obtain ⟨a, xs, rfl, ⟨o, ho, hc, n, hd⟩, hi⟩ := t
  unfold headOf
  simp only [ho, hd]
  obtain ⟨xl, rfl⟩ : ∃ xl : List Value, xs = xl.toArray := ⟨xs.toList, by simp⟩
  replace hi : IntsAre xl ns := hi
  cases hi with
  | nil => exact ⟨fun _ => by simp, fun z => absurd rfl z⟩
  | cons x tk r => exact ⟨fun z => absurd z (by simp), fun _ => ⟨x, tk, by simp⟩⟩
theorem first_at {M : Model} {v : Value} {ns : List Int} {Q : Option Value → Shared → Prop} (t : TS.TupInts s.heap v ns) (h : Q (headOf s.heap v) s) : wpAny M A (firstOfTuple' v) Q E s := by
  obtain ⟨a, xs, rfl, ⟨o, ho, hc, n, hd⟩, hi⟩ := t
  rw [kas_first_eq]
  refine wpAny_bind (Looks.here (show Looks M s.heap (typeOf (.ref a)) o.cls from (Looks.ld ho).andThen .now) ?_)
  rw [hc, if_neg (by first | decide | simp)]
  refine wpAny_bind (listItems_at ho hd (wpAny_pure ?_))
  unfold headOf at h
  simp only [ho, hd] at h
  exact h
theorem tupty {M : Model} {h : Heap} {v : Value} {ns : List Int} (t : TS.TupInts h v ns) : Looks M h (typeOf v) (.type "tuple") := by
  obtain ⟨a, xs, rfl, ⟨o, ho, hc, n, hd⟩, hi⟩ := t
  rw [← hc]
  exact (Looks.ld ho).andThen .now
/-- which way of comparing is taken -/
def kindT (h : Heap) (vs : List Value) : SortKind := if (vs.all fun v => (headOf h v).isSome) = true then tuples' true else if ((vs.head?).bind (headOf h)).isSome = true then general' else oneType'
theorem kind_lots {M : Model} {vs : List Value} {k : Value → List Int} {Q : SortKind → Shared → Prop} (hv : ∀ v ∈ vs, TS.TupInts s.heap v (k v)) (h2 : 2 ≤ vs.length) (h : Q (kindT s.heap vs) s) : wpAny M A (keyKind' vs.toArray) Q E s := by
  rw [kat_kind_eq, List.mapM_toArray, map_eq_pure_bind]
  refine wpAny_bind (wpAny_bind (mapM_by (r := headOf s.heap) vs (fun v hm Q' q => first_at (hv v hm) q) (wpAny_pure ?_)))
  unfold kindT at h
  have e1 : ((vs.map (headOf s.heap)).toArray.all fun x => x.isSome) = vs.all fun v => (headOf s.heap v).isSome := by
    rw [List.all_toArray, List.all_map]; rfl
  by_cases ha : (vs.all fun v => (headOf s.heap v).isSome) = true
  · rw [if_pos ha] at h
    rw [if_pos (by rw [e1]; exact ha)]
    refine wpAny_bind (wpAny_rule ?_)
    have hi : ∀ f ∈ vs.filterMap (headOf s.heap), Looks M s.heap (typeOf f) (.type "int") := fun f hf => by
      obtain ⟨v, hm, e⟩ := List.mem_filterMap.mp hf
      obtain ⟨h0, h1⟩ := headOf_at (hv v hm)
      by_cases kn : k v = []
      · rw [h0 kn] at e; cases e
      · obtain ⟨x, tk, e2⟩ := h1 kn
        rw [e2] at e
        cases e
        exact Looks.now
    have hfm : ((vs.map (headOf s.heap)).toArray.filterMap id) = (vs.filterMap (headOf s.heap)).toArray := by
      rw [List.filterMap_toArray, List.filterMap_map]; rfl
    rw [hfm, oneTypeOnly'_eq, List.mapM_toArray, map_eq_pure_bind]
    refine wpAny_bind (wpAny_bind (wpAny_bind (kas_mapM (r := Value.type "int") _ (fun v hm Q' hq => (hi v hm).here hq) (wpAny_pure ?_))))
    have hne : ∃ f fs, vs.filterMap (headOf s.heap) = f :: fs := by
      match vs, h2, ha with
      | v :: vs, _, ha =>
        rw [List.all_cons, Bool.and_eq_true] at ha
        obtain ⟨x, hx⟩ := Option.isSome_iff_exists.mp ha.1
        exact ⟨x, vs.filterMap (headOf s.heap), by rw [List.filterMap_cons, hx]⟩
    obtain ⟨f, fs, ef⟩ := hne
    rw [ef]
    have hall2 : ((List.map (fun _ => Value.type "int") (f :: fs)).toArray.all fun x => x == Value.type "int") = true := by
      simp only [List.all_toArray, List.all_map, List.all_eq_true]
      intro _ _
      first | rfl | decide +kernel
    have h0 : (List.map (fun _ => Value.type "int") (f :: fs)).toArray[0]? = some (Value.type "int") := by simp
    rw [h0]
    simp only [hall2, if_true]
    refine wpAny_pure (wpAny_pure ?_)
    have e : (Option.any (fun x => x != Value.type "tuple") (some (Value.type "int"))) = true := by first | decide +kernel | rfl
    rw [e]
    exact h
  · rw [if_neg ha] at h
    rw [if_neg (by rw [e1]; exact ha)]
    have e2 : ((vs.map (headOf s.heap)).toArray[0]?.bind id) = (vs.head?).bind (headOf s.heap) := by
      cases vs with
      | nil => rfl
      | cons v vs => simp
    rw [e2]
    by_cases hb : ((vs.head?).bind (headOf s.heap)).isSome = true
    · rw [if_pos hb] at h
      rw [if_pos hb]
      exact wpAny_pure h
    · rw [if_neg hb] at h
      rw [if_neg hb, oneTypeOnly'_eq, List.mapM_toArray, map_eq_pure_bind]
      refine wpAny_bind (wpAny_bind (wpAny_bind (kas_mapM (r := Value.type "tuple") _ (fun v hm Q' hq => (tupty (hv v hm)).here hq) (wpAny_pure ?_))))
      obtain ⟨v, r, ev⟩ : ∃ v r, vs = v :: r := by
        match vs, h2 with
        | v :: r, _ => exact ⟨v, r, rfl⟩
      have hall2 : ((List.map (fun _ => Value.type "tuple") vs).toArray.all fun x => x == Value.type "tuple") = true := by
        simp only [List.all_toArray, List.all_map, List.all_eq_true]
        intro _ _
        first | rfl | decide +kernel
      have h0 : (List.map (fun _ => Value.type "tuple") vs).toArray[0]? = some (Value.type "tuple") := by rw [ev]; simp
      rw [h0]
      simp only [hall2, if_true]
      exact wpAny_pure (wpAny_pure h)
/-- tuple < tuple, by each of the three ways -/
theorem lt_gen {v u : Value} {ns ms : List Int} {Q : Bool → Shared → Prop} (hu : A.units < cLine) (hv : TS.TupInts s.heap v ns) (hw : TS.TupInts s.heap u ms) (h : Q (HT.lexLt ns ms) s) : wpAny (model prog w) A (keyLt' general' v u) Q E s := by
  obtain ⟨a, xs, rfl, h1, h2⟩ := hv
  obtain ⟨b, ys, rfl, h3, h4⟩ := hw
  show wpAny (model prog w) A (oneLt' false (.ref a) (.ref b)) Q E s
  exact kat_one _ _ (HT.lt_tupInts h1 h3 h2 h4 hu (show Q (HT.lexLt ns ms) s from h))
theorem lt_one {v u : Value} {ns ms : List Int} {Q : Bool → Shared → Prop} (hu : A.units < cLine) (hv : TS.TupInts s.heap v ns) (hw : TS.TupInts s.heap u ms) (h : Q (HT.lexLt ns ms) s) : wpAny (model prog w) A (keyLt' oneType' v u) Q E s := by
  obtain ⟨a, xs, rfl, ⟨⟨cl, dd, data, sl⟩, ho, hc, n, hd⟩, h2⟩ := hv
  obtain ⟨b, ys, rfl, ⟨⟨cl2, dd2, data2, sl2⟩, ho2, hc2, n2, hd2⟩, h4⟩ := hw
  simp only at hc hd hc2 hd2
  subst hc hd hc2 hd2
  rw [keyLt'_oneType, oneLt'_eq]
  simp only [if_true]
  refine wpAny_bind (wpAny_cRoomFor hu ?_)
  refine wpAny_bind (wpAny_callSpecialIfBound?_slot ⟨_, ho, rfl⟩ PySem.F.slot_tuple_lt (call_meets PySem.F.slot_tuple_lt ⟨_, ho, rfl⟩ PySem.F.entry_tuple_lt (PySem.F.args_tuple_lt_2 _ _) (HT.tuple_lt_ints a b xs ys n n2 dd dd2 sl sl2 ns ms h2 h4) ⟨ho, ho2, ?_⟩))
  exact wpAny_truthy_bool h
theorem lex_go {Q : Bool → Shared → Prop} : ∀ (xs ys : List Value) (ns ms : List Int) (i : Nat), IntsAre xs ns → IntsAre ys ms → Q (HT.lexLt ns ms) s → KatLex prog w A true (decide (ns.length < ms.length)) Q (xs.zip ys) i s
  | _, _, [], [], i, .nil, .nil, h => kat_nil h
  | _, _, [], m :: ms, i, .nil, .cons _ u q, h => by
    rw [List.zip_nil_left]
    refine kat_nil ?_
    rw [decide_eq_true (by simp)]
    exact h
  | _, _, n :: ns, [], i, .cons _ t r, .nil, h => by
    rw [List.zip_nil_right]
    refine kat_nil ?_
    rw [decide_eq_false (by simp)]
    exact h
  | _, _, n :: ns, m :: ms, i, .cons (vs := xs) _ t r, .cons (vs := ys) _ u q, h => by
    rw [List.zip_cons_cons]
    rw [HT.lexLt_cons] at h
    refine kat_cons (SeqAt.EqAt.int_int n t m u prog w _ _ ?_)
    refine kat_go (fun e => ?_) (fun e => ?_)
    · have ex : n = m := by simpa using e
      rw [if_pos ex] at h
      have := lex_go xs ys ns ms (i + 1) r q h
      rw [List.length_cons, List.length_cons]
      rw [show decide (ns.length + 1 < ms.length + 1) = decide (ns.length < ms.length) from by simp]
      exact kat_yes this
    · have ex : ¬ n = m := by simpa using e
      rw [if_neg ex] at h
      exact kat_no (oneLt_any_int h)
theorem lt_tups {v u : Value} {ns ms : List Int} {Q : Bool → Shared → Prop} (hv : TS.TupInts s.heap v ns) (hw : TS.TupInts s.heap u ms) (h : Q (HT.lexLt ns ms) s) : wpAny (model prog w) A (keyLt' (tuples' true) v u) Q E s := by
  obtain ⟨a, xs, rfl, ⟨o, ho, hc, n, hd⟩, h2⟩ := hv
  obtain ⟨b, ys, rfl, ⟨o2, ho2, hc2, n2, hd2⟩, h4⟩ := hw
  refine kat_lt ho hd ho2 hd2 ?_
  have e1 : xs.size = ns.length := (Array.length_toList (xs := xs)).symm.trans (IntsAre.length h2)
  have e2 : ys.size = ms.length := (Array.length_toList (xs := ys)).symm.trans (IntsAre.length h4)
  rw [e1, e2]
  exact lex_go _ _ ns ms 0 h2 h4 h
theorem lots_sortable {a : Addr} {vs : List Value} {k : Value → List Int} (hu : A.units < cLine) (h2 : 2 ≤ vs.length) (hv : ∀ v ∈ vs, TS.TupInts s.heap v (k v)) (ha : ∀ o, s.heap.get? a = some o → o.cls ≠ .type "tuple") :
    SrtO.SortableO prog w A s a vs fun v u => HT.lexLt (k v) (k u) := by
  intro h' keep
  have hv' : ∀ v ∈ vs, TS.TupInts h' v (k v) := fun v hm => (hv v hm).keeps fun b o e c => keep b o (fun z => by subst z; exact ha o e c) e
  refine ⟨kindT h' vs, fun Q E hq => kind_lots (s := { s with heap := h' }) hv' h2 hq, ?_⟩
  intro p q hp hq
  have h1 := hv' _ hp
  have h2 := hv' _ hq
  unfold kindT
  split
  · exact lt_tups (s := { s with heap := h' }) h1 h2 ⟨rfl, rfl⟩
  · split
    · exact lt_gen (s := { s with heap := h' }) hu h1 h2 ⟨rfl, rfl⟩
    · exact lt_one (s := { s with heap := h' }) hu h1 h2 ⟨rfl, rfl⟩
end
end L2
set_option Elab.async false
set_option linter.all false
set_option maxRecDepth 100000
set_option maxHeartbeats 4000000
namespace Den
open PySem PySem.Spec PyProof.Rows L2
end Den
set_option Elab.async false
set_option linter.all false
set_option maxRecDepth 100000
set_option maxHeartbeats 4000000
namespace Den
open PySem PySem.Spec PyProof.Rows L2
end Den
set_option Elab.async false
set_option linter.all false
set_option maxRecDepth 100000
set_option maxHeartbeats 4000000
namespace L2
open PySem PySem.Spec PyProof.Rows PySem.W
theorem perm_back {α β : Type} {f : α → β} {l M : List β} (h : l.Perm M) : ∀ {L : List α}, M = L.map f → ∃ L' : List α, L'.Perm L ∧ L'.map f = l := by
  induction h with
  | nil => exact fun {L} e => ⟨L, .refl _, e.symm⟩
  | cons x _ ih =>
    intro L e
    match L, e with
    | y :: L, e =>
      rw [List.map_cons] at e
      injection e with e1 e2
      obtain ⟨L', p, q⟩ := ih e2
      exact ⟨y :: L', p.cons y, by rw [List.map_cons, q, e1]⟩
  | swap x y l =>
    intro L e
    match L, e with
    | a :: b :: L, e =>
      rw [List.map_cons, List.map_cons] at e
      injection e with e1 e2
      injection e2 with e2 e3
      exact ⟨b :: a :: L, .swap a b L, by rw [List.map_cons, List.map_cons, e1, e2, e3]⟩
  | trans _ _ i j =>
    intro L e
    obtain ⟨L2, p2, q2⟩ := j e
    obtain ⟨L1, p1, q1⟩ := i q2.symm
    exact ⟨L1, p1.trans p2, q1⟩
section
variable {P : Program} {w : World} {A : Around} {E : Value → Shared → Prop} {s : Shared}
theorem sorted_lotset {a : Addr} {L : List (Addr × List Int)} {es : Array (Int × Value)} {ep : Nat} {t : SetTable} {Q : Value → Shared → Prop} (R : SetTR P w s.heap a L es ep t) (quiet : A.handled = none) (hu : A.units + 2 < cLine)
    (fin : ∀ s' p (c : Nat) (L' : List (Addr × List Int)), (∀ b o, s.heap.get? b = some o → s'.heap.get? b = some o) → s'.gens = s.gens → s'.os = s.os → s.heap.objs.size ≤ p →
      s'.heap.get? p = some (seqObj "list" (List.toArray (L'.map fun q => Value.ref q.1)) c) → L'.Perm L → L'.Pairwise (fun q r => HT.lexLt r.2 q.2 = false) → Q (.ref p) s') :
    wpAny (model P w) A (call (.builtin "sorted") [.ref a]) Q E s := by
  obtain ⟨ob, gO, ex, dO⟩ := R.ob
  have n0 := R.size
  have n1 := R.few
  refine Calls.call_function_entry kind_sorted plain_sorted entry_sorted (args_sorted1 _) ?_
  unfold Builtin.«sorted»
  refine wpAny_bind (m := checkCount "sorted" 1 1 _) (wpAny_pure ?_)
  refine wpAny_bind (collect_set (A := A.in1) quiet ⟨ob, gO, ex.1, dO⟩ R.fits (by unfold scanBound; omega) R.tab.ris R.led fun g1 vs keep1 grow gens1 os1 perm1 => ?_)
  have named : es.toList.map (·.2) = L.map fun q => Value.ref q.1 := by
    rw [R.rows]
    unfold rowsOf
    rw [List.map_map]
    rfl
  rw [named] at perm1
  obtain ⟨L1, pL1, eL1⟩ := perm_back perm1 rfl
  have many : vs.length < 64 := by rw [← eL1, List.length_map, pL1.length_eq]; exact n1
  refine wpAny_bind (wpAny_newList ?_ (by rw [sizeLine_eq]; omega))
  have gL : (g1.heap.push (seqObj "list" vs.toArray 0)).get? g1.heap.objs.size = some (seqObj "list" vs.toArray 0) := Heap.get?_push_size _ rfl
  have tupd : ∀ q ∈ L, TS.TupInts (g1.heap.push (seqObj "list" vs.toArray 0)) (.ref q.1) q.2 := fun q hq => tupInts_of (P := P) (w := w) (isT_keep (R.tup q hq) fun b u e => Heap.get?_push_of_some _ (keep1 b u e))
  have intq : ∀ q ∈ L, TS.intsOf (g1.heap.push (seqObj "list" vs.toArray 0)) (.ref q.1) = q.2 := fun q hq => (tupd q hq).ints
  have all : ∀ v ∈ vs, TS.TupInts (g1.heap.push (seqObj "list" vs.toArray 0)) v (TS.intsOf (g1.heap.push (seqObj "list" vs.toArray 0)) v) := fun v hv => by
    rw [← eL1] at hv
    obtain ⟨q, hq, e⟩ := List.mem_map.mp hv
    have hq := pL1.mem_iff.mp hq
    rw [← e, intq q hq]
    exact tupd q hq
  refine wpAny_bind (wpAny_holding (wpAny_call_entry slot_list_sort ⟨_, gL, rfl⟩ entry_list_sort (SrtO.list_sort_ord (s := { g1 with heap := g1.heap.push (seqObj "list" vs.toArray 0) }) (NtL.swo_lexL fun v => TS.intsOf (g1.heap.push (seqObj "list" vs.toArray 0)) v) gL (by rw [sizeLine_eq]; omega) (fun h2 => lots_sortable (s := { g1 with heap := g1.heap.push (seqObj "list" vs.toArray 0) }) (by simp only [Around.in1_units]; omega) h2 all fun o e => ?_) fun out srt stb => ⟨_, rfl, ?_⟩) (args_list_sort _)))
  · have e2 : some (seqObj "list" vs.toArray 0) = some o := gL.symm.trans e
    cases e2
    intro z
    injection z with z
    exact absurd z (by decide)
  obtain ⟨c, hc⟩ := sortedHeap_at (vs := vs) (out := out.toArray) gL
  obtain ⟨L', pL', eL'⟩ := perm_back (stb.perm.trans (by rw [← eL1] : vs.Perm (L1.map fun q => Value.ref q.1))) rfl
  have mem : ∀ q ∈ L', q ∈ L := fun q hq => pL1.mem_iff.mp (pL'.mem_iff.mp hq)
  refine wpAny_pure ⟨_, rfl, fin _ g1.heap.objs.size c L' (fun b u e => ?_) gens1 os1 grow (by rw [eL']; exact hc) (pL'.trans pL1) ?_⟩
  · have k := keep1 b u e
    have lt := Heap.lt_size k
    show (sortedHeap (g1.heap.push (seqObj "list" vs.toArray 0)) g1.heap.objs.size vs out.toArray).get? b = some u
    rw [sortedHeap_old (Nat.ne_of_lt lt) (by rw [size_push']; exact Nat.lt_succ_of_lt lt)]
    exact Heap.get?_push_of_some _ k
  · have s2 : SrtO.Srtd (fun v u => HT.lexLt (TS.intsOf (g1.heap.push (seqObj "list" vs.toArray 0)) v) (TS.intsOf (g1.heap.push (seqObj "list" vs.toArray 0)) u)) out := srt
    rw [← eL'] at s2
    refine List.Pairwise.imp_of_mem (fun {q r} hq hr h => ?_) (List.pairwise_map.mp s2)
    have h2 : HT.lexLt (TS.intsOf (g1.heap.push (seqObj "list" vs.toArray 0)) (.ref r.1)) (TS.intsOf (g1.heap.push (seqObj "list" vs.toArray 0)) (.ref q.1)) = false := h
    rw [intq q (mem q hq), intq r (mem r hr)] at h2
    exact h2
end
section
variable {X : Cx}
def rSortedL (K : PySem.W.Frag) (P : Program) (w : World) : List V → Hp → VK → Prop := fun vs H Q => ∃ (a : Addr) (L : List (Addr × List Int)), vs = [V.ref a] ∧ H a = some (SetTO P w a L) ∧ (∀ p ∈ L, SqT K H p.1 (p.2.map V.int)) ∧
  ∀ (L' : List (Addr × List Int)) (p : Addr), L'.Perm L → (L'.map (·.2)).Nodup → L'.length < 64 → L'.Pairwise (fun q r => HT.lexLt r.2 q.2 = false) → H p = none → Q (.ref p) (upd H p (.lst (L'.map fun q => V.ref q.1)))
theorem cr_sortedL (hc : X.calm = true) (hu : X.A.units + 2 < cLine) : CallR X (.builtin "sorted") (rSortedL X.K X.prog X.w) := by
  intro pins s σ H vs us Q I r ⟨a, L, e0, hA, tups, q⟩
  subst e0
  have bare : SetT0 X.prog X.w s.heap a L := (I.hok a _ hA).1
  obtain ⟨es, ep, t, R⟩ := bare.full fun p hp => I.isT (tups p hp)
  rw [Vals.ref1 r]
  refine sorted_lotset R (I.ok.hd hc) hu fun s1 p c L' keep gens os grow at_ perm pw => ?_
  have small : L'.length < 64 := by rw [perm.length_eq]; exact R.few
  have free : H p = none := I.hok.fresh grow
  have inv : Inv X pins σ (upd H p (.lst (L'.map fun q => V.ref q.1))) { s with heap := s1.heap, gens := s1.gens, drawn := s1.drawn, toks := s1.toks } :=
    I.call (ch := []) (Un.laid keep grow free) (I.hok.laid keep grow ⟨by rw [List.length_map, sizeLine_eq]; omega, _, c, vals_of_refs L', at_⟩) (by rw [gens]; exact I.bare) (fun _ z => nomatch z)
  have same : s1 = { s with heap := s1.heap, gens := s1.gens, drawn := s1.drawn, toks := s1.toks } := by
    cases s1
    cases s
    cases os
    rfl
  rw [same]
  exact ⟨.ref p, _, inv, rfl, q L' p perm ((perm.map (·.2)).nodup_iff.mpr R.nd) small pw free⟩
end
end L2
set_option Elab.async false
set_option linter.all false
set_option maxRecDepth 100000
set_option maxHeartbeats 4000000
namespace Den
open PySem PySem.Spec PyProof.Rows L2
def ltL (a b : List Int) : Prop := a.length < b.length ∨ (a.length = b.length ∧ a < b)
instance (a b : List Int) : Decidable (ltL a b) := by unfold ltL; infer_instance
theorem ltL_irr (a : List Int) : ¬ ltL a a := fun h => by
  rcases h with h | ⟨_, h⟩
  · omega
  · exact List.lt_irrefl a h
theorem ltL_trans {a b c : List Int} (h : ltL a b) (k : ltL b c) : ltL a c := by
  rcases h with h | ⟨e, h⟩ <;> rcases k with k | ⟨f, k⟩
  · exact .inl (by omega)
  · exact .inl (by omega)
  · exact .inl (by omega)
  · exact .inr ⟨by omega, List.lt_trans h k⟩
theorem ltL_tri (a b : List Int) : ltL a b ∨ a = b ∨ ltL b a := by
  by_cases h : a.length < b.length
  · exact .inl (.inl h)
  by_cases k : b.length < a.length
  · exact .inr (.inr (.inl k))
  have e : a.length = b.length := by omega
  by_cases x : a < b
  · exact .inl (.inr ⟨e, x⟩)
  by_cases y : b < a
  · exact .inr (.inr (.inr ⟨e.symm, y⟩))
  · exact .inr (.inl (List.le_antisymm (List.not_lt.mp y) (List.not_lt.mp x)))
/-- strictly in order -/
def RiL (l : List (List Int)) : Prop := l.Pairwise ltL
theorem riL_uniq : ∀ {a b : List (List Int)}, RiL a → RiL b → (∀ k, k ∈ a ↔ k ∈ b) → a = b
  | [], [], _, _, _ => rfl
  | [], y :: b, _, _, h => absurd ((h y).mpr (by simp)) (by simp)
  | x :: a, [], _, _, h => absurd ((h x).mp (by simp)) (by simp)
  | x :: a, y :: b, ha, hb, h => by
    obtain ⟨a1, a2⟩ := List.pairwise_cons.mp ha
    obtain ⟨b1, b2⟩ := List.pairwise_cons.mp hb
    have e : x = y := by
      rcases List.mem_cons.mp ((h x).mp (by simp)) with e | e
      · exact e
      · rcases List.mem_cons.mp ((h y).mpr (by simp)) with e2 | e2
        · exact e2.symm
        · exact absurd (ltL_trans (b1 x e) (a1 y e2)) (ltL_irr y)
    subst e
    rw [riL_uniq a2 b2 fun k => ?_]
    have hk := h k
    rw [List.mem_cons, List.mem_cons] at hk
    constructor
    · intro q
      rcases hk.mp (.inr q) with e | e
      · subst e; exact absurd (a1 k q) (ltL_irr k)
      · exact e
    · intro q
      rcases hk.mpr (.inr q) with e | e
      · subst e; exact absurd (b1 k q) (ltL_irr k)
      · exact e
def insR (k : List Int) : List (List Int) → List (List Int)
  | [] => [k]
  | x :: r => if ltL k x then k :: x :: r else if k = x then x :: r else x :: insR k r
def ranks : List (List Int) → List (List Int)
  | [] => []
  | k :: ks => insR k (ranks ks)
theorem insR_mem {k j : List Int} : ∀ {l : List (List Int)}, j ∈ insR k l ↔ j = k ∨ j ∈ l
  | [] => by simp [insR]
  | x :: r => by
    unfold insR
    split
    · simp
    · split
      · rename_i h1 h2
        subst h2
        simp
      · rw [List.mem_cons, insR_mem, List.mem_cons]
        constructor
        · rintro (h | h | h) <;> simp [h]
        · rintro (h | h | h) <;> simp [h]
theorem insR_ris {k : List Int} : ∀ {l : List (List Int)}, RiL l → RiL (insR k l)
  | [], _ => by simp [insR, RiL]
  | x :: r, h => by
    obtain ⟨h1, h2⟩ := List.pairwise_cons.mp h
    unfold insR
    split
    · rename_i hk
      refine List.pairwise_cons.mpr ⟨fun y hy => ?_, h⟩
      rcases List.mem_cons.mp hy with e | hy
      · rw [e]; exact hk
      · exact ltL_trans hk (h1 y hy)
    · split
      · exact h
      · rename_i a b
        refine List.pairwise_cons.mpr ⟨fun y hy => ?_, insR_ris h2⟩
        rcases insR_mem.mp hy with e | hy
        · rw [e]
          rcases ltL_tri k x with q | q | q
          · exact absurd q a
          · exact absurd q b
          · exact q
        · exact h1 y hy
theorem ranks_mem {j : List Int} : ∀ {l : List (List Int)}, j ∈ ranks l ↔ j ∈ l
  | [] => by simp [ranks]
  | k :: ks => by rw [ranks, insR_mem, ranks_mem, List.mem_cons]
theorem ranks_ris : ∀ {l : List (List Int)}, RiL (ranks l)
  | [] => by simp [ranks, RiL]
  | k :: ks => by rw [ranks]; exact insR_ris ranks_ris
theorem lex_lt : ∀ a b : List Int, HT.lexLt a b = decide (a < b)
  | [], [] => by rw [HT.lexLt_nil_nil]; simp
  | [], y :: b => by rw [HT.lexLt_nil_cons]; simp
  | x :: a, [] => by rw [HT.lexLt_cons_nil]; simp
  | x :: a, y :: b => by
    rw [HT.lexLt_cons]
    by_cases h : x = y
    · rw [if_pos h, lex_lt a b, h]
      by_cases k : a < b
      · rw [decide_eq_true k, decide_eq_true (List.cons_lt_cons_iff.mpr (.inr ⟨rfl, k⟩))]
      · rw [decide_eq_false k, decide_eq_false fun z => ?_]
        rcases List.cons_lt_cons_iff.mp z with z | ⟨_, z⟩
        · omega
        · exact k z
    · rw [if_neg h]
      by_cases k : x < y
      · rw [decide_eq_true k, decide_eq_true (List.cons_lt_cons_iff.mpr (.inl k))]
      · rw [decide_eq_false k, decide_eq_false fun z => ?_]
        rcases List.cons_lt_cons_iff.mp z with z | ⟨z, _⟩
        · exact k z
        · exact h z
theorem pair_or {α : Type} {a b : α} : ∀ {l : List α}, a ∈ l → b ∈ l → a ≠ b → [a, b].Sublist l ∨ [b, a].Sublist l
  | [], h, _, _ => nomatch h
  | x :: l, ha, hb, ne => by
    rcases List.mem_cons.mp ha with e | ha2
    · subst e
      rcases List.mem_cons.mp hb with e | hb2
      · exact absurd e.symm ne
      · exact .inl ((List.singleton_sublist.mpr hb2).cons_cons _)
    · rcases List.mem_cons.mp hb with e | hb2
      · subst e
        exact .inr ((List.singleton_sublist.mpr ha2).cons_cons _)
      · exact (pair_or ha2 hb2 ne).imp (.cons _) (.cons _)
theorem pair_not {α : Type} {a b : α} {l : List α} (nd : l.Nodup) (h : [a, b].Sublist l) (k : [b, a].Sublist l) : False := by
  induction l with
  | nil => cases h
  | cons x l ih =>
    obtain ⟨hx, nd⟩ := List.nodup_cons.mp nd
    cases h with
    | cons _ h =>
      cases k with
      | cons _ k => exact ih nd h k
      | cons_cons _ k => exact hx (h.subset (by simp))
    | cons_cons _ h =>
      cases k with
      | cons _ k => exact hx (k.subset (by simp))
      | cons_cons _ k => exact hx (h.subset (by simp))
/-- a stable sort by length of what stands in the order of tuples -/
theorem ranked_ris {α : Type} {L : List α} {k : α → List Int} (nd : (L.map k).Nodup) (lex : L.Pairwise fun q r => HT.lexLt (k r) (k q) = false) : RiL ((L.mergeSort fun a b => decide (((k a).length : Int) ≤ ((k b).length : Int))).map k) := by
  have ndL : L.Nodup := nodup_of_map nd
  have perm := List.mergeSort_perm L fun a b => decide (((k a).length : Int) ≤ ((k b).length : Int))
  have inj : ∀ a ∈ L, ∀ b ∈ L, k a = k b → a = b := fun a ha b hb e => by
    refine Classical.byContradiction fun ne => ?_
    have apart : ∀ {x y : α}, [x, y].Sublist L → k x ≠ k y := fun {x y} s => List.pairwise_iff_forall_sublist.mp (List.pairwise_map.mp nd) s
    rcases pair_or ha hb ne with s | s
    · exact apart s e
    · exact apart s e.symm
  have tr : ∀ a b c : α, decide (((k a).length : Int) ≤ ((k b).length : Int)) = true → decide (((k b).length : Int) ≤ ((k c).length : Int)) = true → decide (((k a).length : Int) ≤ ((k c).length : Int)) = true := fun a b c h1 h2 => by
    rw [decide_eq_true_eq] at *
    omega
  have tot : ∀ a b : α, (decide (((k a).length : Int) ≤ ((k b).length : Int)) || decide (((k b).length : Int) ≤ ((k a).length : Int))) = true := fun a b => by
    rw [Bool.or_eq_true, decide_eq_true_eq, decide_eq_true_eq]
    omega
  have pw := List.pairwise_mergeSort tr tot L
  unfold RiL
  rw [List.pairwise_map, List.pairwise_iff_forall_sublist]
  intro a b sub
  have hle := List.pairwise_iff_forall_sublist.mp pw sub
  rw [decide_eq_true_eq] at hle
  have ha := perm.mem_iff.mp (sub.subset (by simp : a ∈ [a, b]))
  have hb := perm.mem_iff.mp (sub.subset (by simp : b ∈ [a, b]))
  have ndS : (L.mergeSort fun a b => decide (((k a).length : Int) ≤ ((k b).length : Int))).Nodup := perm.nodup_iff.mpr ndL
  have ne : a ≠ b := fun e => by
    subst e
    exact pair_not ndS sub sub
  by_cases hlt : (k a).length < (k b).length
  · exact .inl hlt
  refine .inr ⟨by omega, ?_⟩
  rcases pair_or ha hb ne with s | s
  · have h := List.pairwise_iff_forall_sublist.mp lex s
    rw [lex_lt] at h
    have h2 : ¬ k b < k a := by simpa using h
    by_cases h3 : k a < k b
    · exact h3
    · exact absurd (inj a ha b hb (List.le_antisymm (List.not_lt.mp h2) (List.not_lt.mp h3))) ne
  · exact (pair_not ndS sub (List.pair_sublist_mergeSort tr tot (by rw [decide_eq_true_eq]; omega) s)).elim
end Den
set_option Elab.async false
set_option linter.all false
set_option maxRecDepth 100000
set_option maxHeartbeats 4000000
namespace L2
open PySem PySem.Spec PyProof.Rows PySem.W Den
section
variable {X : Cx}
theorem key_len (q : Addr) : Builtin.«list.sort» ⟨[.ref q], [(Str.ofString "key", .builtin "len")]⟩ = ksk_tree q (.builtin "len") false := rfl
theorem each_refs {R : Value → Addr × List Int → Prop} : ∀ {L : List (Addr × List Int)}, (∀ q ∈ L, R (.ref q.1) q) → EachIs R (L.map fun q => Value.ref q.1) L
  | [], _ => .nil
  | q :: L, h => .cons (h q List.mem_cons_self) (each_refs fun z hz => h z (List.mem_cons_of_mem _ hz))
theorem refs_each {R : Value → Addr × List Int → Prop} (hR : ∀ v q, R v q → v = .ref q.1) : ∀ {vs : List Value} {L : List (Addr × List Int)}, EachIs R vs L → vs = L.map fun q => Value.ref q.1
  | _, _, .nil => rfl
  | _, _, .cons h t => by rw [List.map_cons, hR _ _ h, refs_each hR t]
theorem run_keylen {pins : List (Addr × Obj)} {s : Shared} {σ : St} {H : Hp} {a : Addr} {L : List (Addr × List Int)} {Q : VK} (I : Inv X pins σ H s) (hu : X.A.units + 2 < cLine) (few : L.length ≤ 1000) (hs : SqL X.K H a (L.map fun q => V.ref q.1)) (tups : ∀ q ∈ L, SqT X.K H q.1 (q.2.map V.int))
    (q : ∀ p, H p = none → Q (.ref p) (upd H p (.lst ((L.mergeSort fun a b => decide ((a.2.length : Int) ≤ (b.2.length : Int))).map fun q => V.ref q.1)))) :
    wpAny (model X.prog X.w) X.A (call (.builtin "sorted") [.ref a] [(Str.ofString "key", .builtin "len")]) (EP X pins σ Q) X.xe s := by
  obtain ⟨its, rv, pl, hz⟩ := I.list hs
  have ei : its = L.map fun q => Value.ref q.1 := refs_of_vals rv
  subst ei
  refine sorted_key_data (β := Addr × List Int) (R := fun v q => v = .ref q.1 ∧ q ∈ L) (fun q => .int (q.2.length : Nat)) pl.isList (each_refs fun q hq => ⟨rfl, hq⟩) (AllAlike.of fun _ _ => by simp [alike]) (Sortable.others fun _ => ⟨by simp, by simp⟩) (by rw [sizeLine_eq]; omega)
    (fun x _ => by simp only [PyData.depth]; omega) (ksk_s1 _ _) (fun _ => ksk_l1 _ _) key_len ?_ ?_
  · rintro v q ⟨rfl, hq⟩ _ h tk keep
    obtain ⟨its2, r2, pt, hz2⟩ := I.tuple (tups q hq)
    have n2 := r2.length
    rw [List.length_map] at n2 hz2
    have l63 := line63
    have pt2 : h.IsTuple q.1 its2.toArray := by
      obtain ⟨o, ho, hc, n, hd⟩ := pt
      exact ⟨o, keep _ _ ho, hc, n, hd⟩
    refine len_tuple pt2 (by simp only [List.size_toArray]; omega) ⟨h, tk + 1 + 1, rfl, fun _ _ z => z, ?_⟩
    have e : (its2.toArray.size : Int) = ((q.2.length : Nat) : Int) := by rw [List.size_toArray, n2]
    rw [e]
    exact .int _ _
  · intro out c h' tk keep fresh at_ len each
    have eo : out = (L.mergeSort (dataLe false fun q => .int (q.2.length : Nat))).map fun q => Value.ref q.1 := refs_each (fun v q h => h.1) each
    have el : (dataLe false fun q : Addr × List Int => PyData.int (q.2.length : Nat)) = fun a b => decide ((a.2.length : Int) ≤ (b.2.length : Int)) := dataLe_int fun q : Addr × List Int => ((q.2.length : Nat) : Int)
    rw [el] at eo
    subst eo
    exact ⟨.ref _, upd H (s.heap.objs.size + 1) (.lst ((L.mergeSort fun a b => decide ((a.2.length : Int) ≤ (b.2.length : Int))).map fun q => V.ref q.1)), I.laid (t' := tk) keep (Nat.le_succ _) ⟨by rw [List.length_map, List.length_mergeSort, sizeLine_eq]; omega, _, c, vals_of_refs _, at_⟩, rfl, q _ (I.hok.fresh (Nat.le_succ _))⟩
end
end L2
namespace L2
open PySem PySem.Spec PyProof.Rows PySem.W Den
section
variable {X : Cx}
def rKeyLen (K : PySem.W.Frag) : List V → Hp → VK → Prop := fun vs H Q => ∃ (a : Addr) (L : List (Addr × List Int)), vs = [V.ref a] ∧ L.length ≤ 1000 ∧ SqL K H a (L.map fun q => V.ref q.1) ∧ (∀ q ∈ L, SqT K H q.1 (q.2.map V.int)) ∧
  ∀ p, H p = none → Q (.ref p) (upd H p (.lst ((L.mergeSort fun a b => decide ((a.2.length : Int) ≤ (b.2.length : Int))).map fun q => V.ref q.1)))
theorem pe_keylen {e : Expr} {es : List Expr} {t : TA} {p p4 kp pos : Pos} (hu : X.A.units + 2 < cLine) (hg : Gl X "sorted") (hm : X.mg "sorted" = none) (hg2 : Gl X "len") (hm2 : X.mg "len" = none) (ha : PA X (e :: es) t)
    (he : backTo pos (starEach (e :: es) X.env) = (false, eval e X.env) :: backTo pos (starEach es X.env) := by rfl) (hpl : (backTo pos (starEach (e :: es) X.env)).any (·.1) = false := by rfl) :
    PE X (.Call (.Name "sorted" p) (e :: es) [⟨some "key", .Name "len" p4, kp⟩] pos) (fun σ H Q => t σ H fun vs H1 => rKeyLen X.K vs H1 Q) := by
  refine ⟨fun pins s σ H Q I h => ?_⟩
  refine wpAny_Call_Name_kw (ld_blt I hg hm PyProof.Rows.boot_sorted ?_ (by decide) (by decide))
  refine PyProof.Rows.callWith_kw (thn (ha.run pos pins s σ H _ I h) fun us s1 ⟨vs, H1, I1, r1, a, L, e0, few, hs, tups, q⟩ => ?_) he hpl rfl rfl
  subst e0
  rw [Vals.ref1 r1]
  show wpAny _ _ (evalAll [(do let v ← eval (.Name "len" p4) X.env; standAt pos; pure v)]) _ _ s1
  refine wpAny_evalAll_cons (wpAny_bind (ld_blt I1 hg2 hm2 PySem.boot_len (wpAny_bind (wpAny_standAt (wpAny_pure ?_))) (by decide) (by decide)))
  refine wpAny_evalAll_nil ?_
  exact run_keylen I1 hu few hs tups q
end
end L2
namespace Den
open PySem PySem.Spec PyProof.Rows L2
def D.lots : List D → Option (List (List Int))
  | [] => some []
  | .tup xs :: ds => match D.ints xs with
    | some ns => (D.lots ds).map (ns :: ·)
    | none => none
  | _ => none
def dLots1 (xs : List D) : M (List D) := match D.lots xs with
  | some nss => if nss.length < 64 then pure ((ranks nss).map fun ns => .tup (ns.map .int)) else M.bad
  | none => M.bad
def dSortLots : List D → M (List D)
  | [.lst xs] => dLots1 xs
  | _ => M.bad
theorem rep_lots {xi : XI} {K : PySem.W.Frag} {st : Stx xi} {S : Addr → Prop} {H : Hp} : ∀ {vs : List V} {ds : List D} {nss : List (List Int)}, RepL K st S H vs ds → D.lots ds = some nss →
    ∃ ks : List (Addr × List Int), vs = ks.map (fun p => V.ref p.1) ∧ ks.map (·.2) = nss ∧ ∀ p ∈ ks, TupN K H p.1 (p.2.map V.int)
  | _, [], _, r, h => by
    cases r
    cases h
    exact ⟨[], rfl, rfl, fun _ z => nomatch z⟩
  | _, d :: ds, nss, r, h => by
    cases r with
    | cons r t =>
      match d, r, h with
      | .tup xs, r, h =>
        cases r with
        | tup hn rr =>
          unfold D.lots at h
          cases e : D.ints xs with
          | none => rw [e] at h; cases h
          | some ns =>
            rw [e] at h
            obtain ⟨ms, h1, h2⟩ := Option.map_eq_some_iff.mp h
            subst h2
            obtain ⟨ks, h3, h4, h5⟩ := rep_lots t h1
            have ev := rep_ints rr e
            subst ev
            refine ⟨(_, ns) :: ks, by rw [h3, List.map_cons], by rw [List.map_cons, h4], fun p hp => ?_⟩
            rcases List.mem_cons.mp hp with z | z
            · subst z; exact hn
            · exact h5 p z
section
variable {X : Cx} {W : WX} {p1 p2 p3 p4 kp pos q0 q1 : Pos} {e : Expr} {A : EV → M (List D)}
theorem lSortLots {k : Nat} (hr : Room k X.A) (hm : X.mg "sorted" = none) (hm2 : X.mg "set" = none) (hm3 : X.mg "len" = none) (hc : X.calm = true) (ha : SA X W [e] A) (hg : Gl X "sorted" := by rfl) (hg2 : Gl X "set" := by rfl) (hg3 : Gl X "len" := by rfl)
    (he : starEach [e] X.env = (false, eval e X.env) :: starEach [] X.env := by rfl) (hpl : (backTo q0 (starEach [] X.env)).any (·.1) = false := by rfl)
    (he2 : starEach [.Call (.Name "set" p3) [e] [] q0] X.env = (false, eval (.Call (.Name "set" p3) [e] [] q0) X.env) :: starEach [] X.env := by rfl) (hpl2 : (backTo q1 (starEach [] X.env)).any (·.1) = false := by rfl)
    (he3 : starEach [.Call (.Name "sorted" p2) [.Call (.Name "set" p3) [e] [] q0] [] q1] X.env = (false, eval (.Call (.Name "sorted" p2) [.Call (.Name "set" p3) [e] [] q0] [] q1) X.env) :: starEach [] X.env := by rfl)
    (he4 : backTo pos (starEach [.Call (.Name "sorted" p2) [.Call (.Name "set" p3) [e] [] q0] [] q1] X.env) = (false, eval (.Call (.Name "sorted" p2) [.Call (.Name "set" p3) [e] [] q0] [] q1) X.env) :: backTo pos (starEach [] X.env) := by rfl)
    (hpl4 : (backTo pos (starEach [.Call (.Name "sorted" p2) [.Call (.Name "set" p3) [e] [] q0] [] q1] X.env)).any (·.1) = false := by rfl) :
    SF X W (.Call (.Name "sorted" p1) [.Call (.Name "sorted" p2) [.Call (.Name "set" p3) [e] [] q0] [] q1] [⟨some "key", .Name "len" p4, kp⟩] pos) (lG dSortLots A) := by
  have hu : X.A.units + 66 < cLine := by have := hr.un; omega
  have one : PE X (.Call (.Name "set" p3) [e] [] q0) _ := pe_callTy (cr_setOfT hc (by omega)) hg2 hm2 PyProof.Rows.boot_set ha.pa (by decide) (by decide) he hpl
  have two : PE X (.Call (.Name "sorted" p2) [.Call (.Name "set" p3) [e] [] q0] [] q1) _ := pe_callB (cr_sortedL hc (by omega)) hg hm PyProof.Rows.boot_sorted (pa_cons one pa_nil he2) (by decide) (by decide) he2 hpl2
  refine .imp (pe_keylen (by omega) hg hm hg3 hm3 (pa_cons two pa_nil he3) he4 hpl4) fun σ H Q ⟨st, S, ρ, m, cv, er, o⟩ => ?_
  refine TAD.bindF (G := fun ds _ => dSortLots ds) cv er o fun vs ds m1 H1 c1 cv1 er1 r1 o1 => ?_
  match ds, r1, o1 with
  | [.lst xs], r1, o1 =>
    obtain ⟨v, rfl, rv⟩ := repL1 r1
    cases rv with
    | lst hn hs rr =>
      replace o1 : OutF X.K st S H1 (dLots1 xs m1) Q (WE W σ) := o1
      unfold dLots1 at o1
      cases eq : D.lots xs with
      | none => rw [eq] at o1; exact o1.elim
      | some nss =>
        rw [eq] at o1
        by_cases hb : nss.length < 64
        · simp only [hb, if_true] at o1
          obtain ⟨ks, h1, h2, h3⟩ := rep_lots rr eq
          subst h1
          have kl : ks.length < 64 := by rw [← h2, List.length_map] at hb; exact hb
          refine ⟨_, ks, rfl, SqL.of hs, fun p hp => (h3 p hp).sq, kl, fun a L fa sub sup => ?_⟩
          have hL : ∀ p ∈ L, TupN X.K (upd H1 a (SetTO X.prog X.w a L)) p.1 (p.2.map V.int) := fun p hp => (Chg.new (B := atSt st) fa).tupN (h3 p (sub p hp))
          refine ⟨a, L, rfl, upd_same, fun p hp => (hL p hp).sq, fun L' b perm nd few pw fb => ?_⟩
          have hL' : ∀ p ∈ L', TupN X.K (upd (upd H1 a (SetTO X.prog X.w a L)) b (.lst (L'.map fun q => V.ref q.1))) p.1 (p.2.map V.int) := fun p hp => (Chg.new (B := atSt st) fb).tupN (hL p (perm.mem_iff.mp hp))
          refine ⟨b, L', rfl, by omega, SqL.of upd_same, fun p hp => (hL' p hp).sq, fun c fc => ?_⟩
          have cv2 := (cv1.new (o := SetTO X.prog X.w a L) fa).new (o := .lst (L'.map fun q => V.ref q.1)) fb
          have o2 := (o1.chg (Chg.new (o := SetTO X.prog X.w a L) fa)).chg (Chg.new (o := .lst (L'.map fun q => V.ref q.1)) fb)
          have srt := ranked_ris (k := fun q : Addr × List Int => q.2) nd pw
          have er2 : (L'.mergeSort fun a b => decide ((a.2.length : Int) ≤ (b.2.length : Int))).map (·.2) = ranks nss := riL_uniq srt ranks_ris fun ns => by
            rw [ranks_mem, ← h2]
            constructor
            · intro z
              obtain ⟨q, hq, e⟩ := List.mem_map.mp z
              rw [List.mem_mergeSort] at hq
              exact List.mem_map.mpr ⟨q, sub q (perm.mem_iff.mp hq), e⟩
            · intro z
              obtain ⟨q, hq, e⟩ := List.mem_map.mp z
              obtain ⟨q2, hq2, e2⟩ := List.mem_map.mp (sup q hq)
              exact List.mem_map.mpr ⟨q2, List.mem_mergeSort.mpr (perm.mem_iff.mpr hq2), e2.trans e⟩
          rw [← er2, List.map_map] at o2
          exact out_new cv2 o2 (repL_map fun q hq => .tup (hL' q (List.mem_mergeSort.mp hq)) (repL_map fun j _ => .int j)) c fc
        · simp only [hb, if_false] at o1
          exact o1.elim
  | [.tup _], _, o1 => exact o1.elim
  | [.scr _], _, o1 => exact o1.elim
  | [.non], _, o1 => exact o1.elim
  | [.bl _], _, o1 => exact o1.elim
  | [.int _], _, o1 => exact o1.elim
  | [.str _], _, o1 => exact o1.elim
  | [.obj _ _], _, o1 => exact o1.elim
  | [.rng _ _], _, o1 => exact o1.elim
  | [.exc _ _], _, o1 => exact o1.elim
  | [.sto], _, o1 => exact o1.elim
  | [], _, o1 => exact o1.elim
  | d :: _ :: _, _, o1 => cases d <;> exact o1.elim
end
end Den
set_option Elab.async false
set_option linter.all false
set_option maxRecDepth 100000
set_option maxHeartbeats 4000000
namespace Den
open PySem PySem.Spec PyProof.Rows L2
def lGK (g : List D → M (List D)) (Ak : EV → M (List D)) (m : Nat) (pl : List Nat) : EV → M (List D) := fun ρ => do
  let es ← Ak ρ
  need (decide (es.length = m))
  g (pick pl es)
section
variable {X : Cx} {W : WX} {p pos : Pos} {kws : List Keyword} {Ak : EV → M (List D)} {x : Str} {k : Nat} {params : Arguments} {body : List Stmt} {scope : Scope} {ps : List Str} {g : List D → M (List D)}
theorem lCallK (c : CalF X.prog X.w X.K X.mg X.base k x params body scope ps g) (ks : List Str) (pl : List Nat)
    (hb : ∀ (kV doc pm : Value) (an : Option Addr) (cdv ct : Value) (us ws : List Value), us.length = 0 → ws.length = ks.length → bindArgs (PySem.W.fnOf x x params body scope .none kV doc pm an cdv ct) ⟨us, ks.zip ws⟩ = pure (ps.zip (pick pl (us ++ (ws ++ [])))))
    (tk : Takes X W) (hr : Room k X.A) (hkw : SK X W kws Ak) (hg : Gl X x := by rfl) (hall : (backToKw pos (keywordEach kws X.env)).all (·.1.isSome) = true := by rfl) (hks : (backToKw pos (keywordEach kws X.env)).filterMap (·.1) = ks := by rfl) (hdb : (x == ("__debug__" : Str)) = false := by decide)
    (hpl : ((backTo pos (starEach [] X.env)).any (·.1) || (backToKw pos (keywordEach kws X.env)).any (·.1.isNone)) = false := by rfl) :
    SF X W (.Call (.Name x p) [] kws pos) (lGK g Ak ks.length pl) := by
  obtain ⟨f, fd, hm, F, hb0, Fn⟩ := c.ex
  obtain ⟨us0, kb⟩ := (kb_plain (ps := ps) F 0 ks pl hb).ex
  refine ⟨⟨fun pins s σ H Q I h0 => ?_⟩⟩
  have hkp := hkw.pk
  rw [xi_room hr] at h0 hkp
  obtain ⟨st, S, ρ, m, cv, er, o⟩ := h0
  have key : TAD none X.K W Ak σ H fun zs H2 => zs.length = ks.length ∧ spFr X.K g (pick pl ([] ++ (zs ++ []))) H2 Q (WE W σ) :=
    TAD.bindF (G := fun es _ => do need (decide (es.length = ks.length)); g (pick pl es)) cv er o fun zs es m1 H1 c1 cv1 er1 r1 o1 => by
      obtain ⟨h1, o2⟩ := out_needF o1
      exact ⟨r1.length.trans (of_decide_eq_true h1), st, S, _, m1, cv1, by rw [List.nil_append, List.append_nil]; exact r1.pick pl, o2⟩
  refine wpAny_Call_Name_kw (ld_glob I hg hm (PySem.W.callWith_KW0 (h₀ := X.base) I.ok.mod.kin F.kp hall ?_ hpl) hdb)
  refine thn (hkp.run pos pins s σ H _ I key) fun ws s2 ⟨zs, H2, I2, rz, l2, q2⟩ => ⟨I2.kIn, ?_⟩
  rw [hks]
  have l3 : ws.length = ks.length := by rw [← l2, rz.length]
  have run := Fn.run X.A X.stack s2 H2 ⟨[], ks.zip ws⟩ _ _ Q (WE W σ) hr I2.env0 (kb.to s2 [] ws I2.kIn rfl l3) (kb.rel .nil rz) q2
  refine wpAny_call (codeAny_mono run fun res s' z => ?_)
  match res, z with
  | .error ev, z => exact passAt tk σ pins H2 s2 ev s' I2 z
  | .ok (.ret u), z => exact I2.after z
  | .ok .next, z => exact z.elim
  | .ok .brk, z => exact z.elim
  | .ok .cont, z => exact z.elim
end
end Den
set_option Elab.async false
set_option linter.all false
set_option maxRecDepth 100000
set_option maxHeartbeats 4000000
namespace Den
open PySem PySem.Spec PyProof.Rows L2
def gOwn (i : Nat) (f : List D → List D) : SV → M Fl := fun ρ => match ρ[i]? with
  | some (.ow xs) => pure (.nx (ρ.set i (.ow (f xs))))
  | _ => M.bad
section
variable {X : Cx} {W : WX} {s : Stmt} {x : Str} {p pn pos : Pos}
theorem ss_own {i : Nat} {f : List D → List D} {fv : List V → List V} {r : V → List V → Hp → VK → Prop} (h : PS X s (tDrop (tBM0 X.K "list" r (tVar i)))) (hr : ∀ a vs (H : Hp) Q, H a = some (.lst vs) → Q .non (upd H a (.lst (fv vs))) → r (.ref a) [] H Q)
    (hf : ∀ {xi : XI} {st : Stx xi} {S : Addr → Prop} {H : Hp} {vs : List V} {xs : List D}, RepL X.K st S H vs xs → RepL X.K st S H (fv vs) (f xs)) : SS1 X W s (gOwn i f) := by
  refine ⟨PS.imp h fun Dn σ H ⟨st, S, ρ, m, H0, k, e, o⟩ => ?_⟩
  unfold gOwn at o
  cases q : ρ[i]? with
  | none => rw [q] at o; exact o.elim
  | some sl =>
    rw [q] at o
    cases sl with
    | ow xs =>
      obtain ⟨a, vs, g1, g2, g3, g4⟩ := e.ow i xs q
      obtain ⟨k2, e2, p2⟩ := EnvS.write k e q g1 g2 (hf g4)
      exact ⟨.ref a, g1, .inl ⟨rfl, _, SqL.of g2⟩, hr a vs H _ g2 (o σ _ k2 e2 p2)⟩
    | no => exact o.elim
    | va d => exact o.elim
    | ob c fs => exact o.elim
theorem repL_rev {xi : XI} {K : PySem.W.Frag} {st : Stx xi} {S : Addr → Prop} {H : Hp} {vs : List V} {xs : List D} (r : RepL K st S H vs xs) : RepL K st S H vs.reverse xs.reverse := by
  induction xs generalizing vs with
  | nil => cases r; exact .nil
  | cons d ds ih =>
    cases r with
    | cons r t =>
      rw [List.reverse_cons, List.reverse_cons]
      exact (ih t).append (.cons r .nil)
theorem sRev (i : Nat) {apos : Pos} (hi : X.N[i]? = some x := by rfl) (hv : Vis X.env.scope x := by first | exact Or.inl rfl | exact Or.inr (Or.inl rfl)) (hd : (x == ("__debug__" : Str)) = false := by decide) (hcd : (x == ("__classdict__" : Str)) = false := by decide)
    (hl : (apos.endLine == pos.line) = true := by rfl) (hb : attributeBase (.Name x pn) "reverse" X.env (eval (.Name x pn) X.env) = eval (.Name x pn) X.env := by rfl)
    (hs : swapsWith (.Call (.Attribute (.Name x pn) "reverse" apos) [] [] pos) none p.line X.env = pure false := by rfl) :
    SS1 X W (.Expr (.Call (.Attribute (.Name x pn) "reverse" apos) [] [] pos) p) (gOwn i List.reverse) :=
  ss_own (fv := List.reverse) (r := rReverse) (ps_expr (pe_bm0 PySem.F.plainAttrs_list PySem.F.slot_list_reverse PySem.F.type_list_reverse mt_reverse (pv i hi hv hd hcd) hb hl) hs) (fun a vs H Q h q => ⟨a, vs, rfl, rfl, h, q⟩) repL_rev
theorem sClr (i : Nat) {apos : Pos} (hi : X.N[i]? = some x := by rfl) (hv : Vis X.env.scope x := by first | exact Or.inl rfl | exact Or.inr (Or.inl rfl)) (hd : (x == ("__debug__" : Str)) = false := by decide) (hcd : (x == ("__classdict__" : Str)) = false := by decide)
    (hl : (apos.endLine == pos.line) = true := by rfl) (hb : attributeBase (.Name x pn) "clear" X.env (eval (.Name x pn) X.env) = eval (.Name x pn) X.env := by rfl)
    (hs : swapsWith (.Call (.Attribute (.Name x pn) "clear" apos) [] [] pos) none p.line X.env = pure false := by rfl) :
    SS1 X W (.Expr (.Call (.Attribute (.Name x pn) "clear" apos) [] [] pos) p) (gOwn i fun _ => []) :=
  ss_own (fv := fun _ => []) (r := rClear) (ps_expr (pe_bm0 PySem.F.plainAttrs_list PySem.F.slot_list_clear PySem.F.type_list_clear mt_clear (pv i hi hv hd hcd) hb hl) hs) (fun a vs H Q h q => ⟨a, vs, rfl, rfl, h, q⟩) (fun _ => .nil)
end
end Den
set_option Elab.async false
set_option linter.all false
set_option maxRecDepth 100000
set_option maxHeartbeats 4000000
namespace Den
open PySem PySem.Spec PyProof.Rows L2
def gGrow (i : Nat) (F : EV → M D) : SV → M Fl := fun ρ => match ρ[i]? with
  | some (.ow xs) => exB (F (vw [] ρ)) ρ fun d => match d with
    | .lst ys => do
      lim (xs.length + ys.length)
      pure (.nx (ρ.set i (.ow (xs ++ ys))))
    | _ => M.bad
  | _ => M.bad
section
variable {X : Cx} {W : WX} {s : Stmt} {x : Str} {e : Expr} {F : EV → M D} {p pn p2 pos : Pos}
theorem ss_grow {i : Nat} (h : PS X s (tAsg (tOp rCat (tVar i) (TE X.xi X.K W F)) (gName i))) : SS1 X W s (gGrow i F) := by
  refine ⟨PS.imp h fun Dn σ H ⟨st, S, ρ, m, H0, k, e, o⟩ => ?_⟩
  unfold gGrow at o
  cases q : ρ[i]? with
  | none => rw [q] at o; exact o.elim
  | some sl =>
    rw [q] at o
    cases sl with
    | ow xs =>
      obtain ⟨a, vs, g1, g2, g3, g4⟩ := e.ow i xs q
      refine ⟨.ref a, g1, ?_⟩
      refine TE.stm k e o fun v d m1 H1 c1 k1 cv1 e1 r1 o1 => ?_
      obtain ⟨b, ws, f1, f2, f3, f4⟩ := e1.ow i xs q
      have eb : b = a := by rw [g1] at f1; cases f1; rfl
      subst eb
      match d, r1, o1 with
      | .lst ys, r1, o1 =>
        obtain ⟨hz, o2⟩ := out_lim (P := fun r => OutS X.K W st S H0 H1 σ ρ r Dn) (fun z => z) o1
        cases r1 with
        | lst hn hs rr =>
          have rr2 := rr.mono (B := noB) (Chg.refl H1) (fun _ z => z.elim) AvM.nil
          refine ⟨b, _, ws, _, rfl, rfl, f2, hs, by rw [f4.length, rr2.length]; exact hz, fun c n => ?_⟩
          have all := f4.append rr2
          obtain ⟨e2, p2⟩ := EnvS.setOw (i := i) k1 e1 n (Chg.new n) upd_same (RepL.new (all.wide fun a z => z.imp id fun q => by rw [q]; exact n) n)
          exact o2 _ _ (k1.after (Chg.new n) (k1.cov.new n)) e2 p2
      | .non, _, o1 => exact o1.elim
      | .bl _, _, o1 => exact o1.elim
      | .int _, _, o1 => exact o1.elim
      | .str _, _, o1 => exact o1.elim
      | .tup _, _, o1 => exact o1.elim
      | .scr _, _, o1 => exact o1.elim
      | .obj _ _, _, o1 => exact o1.elim
      | .rng _ _, _, o1 => exact o1.elim
      | .exc _ _, _, o1 => exact o1.elim
      | .sto, _, o1 => exact o1.elim
    | no => exact o.elim
    | va d => exact o.elim
    | ob c fs => exact o.elim
theorem sGrow (i : Nat) (hN : X.N.Nodup) (h : SE X W e F) (hi : X.N[i]? = some x := by rfl) (hv : Vis X.env.scope x := by first | exact Or.inl rfl | exact Or.inr (Or.inl rfl)) (hd : (x == ("__debug__" : Str)) = false := by decide) (hcd : (x == ("__classdict__" : Str)) = false := by decide)
    (hx : Loc X.env.scope x := by first | exact Or.inl rfl | exact Or.inr rfl) (hs : swapsWith (.BinOp (.Name x p2) .Add e p) (some (.Name x pn)) pos.line X.env = pure false := by rfl)
    (hf : X.fn x = true ∨ X.env.scope.names.lookup x = some .local := by first | exact .inr rfl | exact .inl rfl) : SS1 X W (.Assign [.Name x pn] (.BinOp (.Name x p2) .Add e p) pos) (gGrow i F) :=
  ss_grow (ps_set hN hi hx (pe_op op_cat (pv i hi hv hd hcd) h.pe) hs hf)
end
end Den
set_option Elab.async false
set_option linter.all false
set_option maxRecDepth 100000
set_option maxHeartbeats 4000000
namespace Hd
open PySem PySem.Spec PyProof.Rows L2 Den
def top (i : Nat) : Stmt := PySem.Challenge.pw_greatestback_k23_unmade_rows.main.body.getD i (.Pass ⟨0, 0, 0, 0⟩)
abbrev s__law_store : Stmt := top 40
abbrev s__law_mix : Stmt := top 41
abbrev s__law_take : Stmt := top 42
abbrev s__law_side : Stmt := top 60
abbrev s__law_sizes : Stmt := top 61
abbrev s__law_turn : Stmt := top 57
abbrev s__law_lot : Stmt := top 48
abbrev s__law_pick : Stmt := top 43
abbrev s__law_join : Stmt := top 52
abbrev s__law_of : Stmt := top 55
abbrev s__law_twin : Stmt := top 63
abbrev s__law_shuffle : Stmt := top 44
abbrev s__law_placing : Stmt := top 54
abbrev s__law_free : Stmt := top 62
abbrev s__law_some_grid : Stmt := top 65
abbrev s__law_world : Stmt := top 66
abbrev s__is_short : Stmt := top 26
abbrev s_is_number : Stmt := top 8
abbrev s__width_of : Stmt := top 28
abbrev s__is_row : Stmt := top 27
abbrev s_Table_init : Stmt := inClass (top 31) 0
abbrev s__law_table : Stmt := top 58
abbrev s__law_lots : Stmt := top 56
abbrev s__law_ranked : Stmt := top 51
abbrev s__law_joined : Stmt := top 64
abbrev s__law_within : Stmt := top 53
abbrev s__law_unmade_joins : Stmt := top 67
abbrev s_check_number : Stmt := top 9
abbrev s__is_ascending : Stmt := top 14
abbrev s_is_lot : Stmt := top 13
abbrev s_check_lot : Stmt := top 15
abbrev s__check_lots : Stmt := top 16
abbrev s_sorted_lots : Stmt := top 21
abbrev s__lot_of_cells : Stmt := top 29
abbrev s_Table_row_lots : Stmt := inClass (top 31) 10
abbrev s_lot_of : Stmt := top 17
abbrev s_join_all : Stmt := top 18
abbrev s__has_all : Stmt := top 20
abbrev s_holds : Stmt := top 19
abbrev s__join_of_lower : Stmt := top 36
abbrev s_unmade_rows : Stmt := top 35
abbrev s__law_same : Stmt := top 46
abbrev s_Table_columns : Stmt := inClass (top 31) 9
abbrev s_Table_height : Stmt := inClass (top 31) 4
abbrev s_turned : Stmt := top 33
abbrev s_unmade_columns : Stmt := top 37
abbrev s__law_near_lot : Stmt := top 49
abbrev s__law_alike : Stmt := top 68
abbrev s__law_values : Stmt := top 69
abbrev s__law_bare : Stmt := top 47
abbrev s__law_is_integer : Stmt := top 45
abbrev s__law_is_lot : Stmt := top 50
abbrev s_Table_width : Stmt := inClass (top 31) 5
abbrev s_is_unmade : Stmt := top 38
abbrev s_Table_rows : Stmt := inClass (top 31) 8
abbrev s__law_shows : Stmt := top 59
abbrev s_law : Stmt := top 70
section
variable {P : Program} {w : World} {K : PySem.W.Frag} {mg : Str → Option Value} {base : Heap}
def N__law_store : List Str := ["script", "cell"]
theorem sc__law_store : FnScope N__law_store ["script"] (defScope s__law_store) := ⟨rfl, rfl, rfl, by decide +kernel, rfl, by decide +kernel, by decide +kernel⟩
def den__law_store : List D → M D := runF 1 2 (gRet (fNew (lDis (aC (fNew (compV (eName 1) (iSeq (fNew (gSlice (gVar 0) oNo (oYes (fC (.int 63)))))) tYes (fL dInt (aC (gVar 1) aN)))) (aC (fC (.int 0)) (aC (fC (.int 0)) (aC (fC (.int 0)) (aC (fC (.int 0)) (aC (fC (.int 314159265358)) (aC (fC (.int 0)) aN))))))))))
theorem ok__law_store {f : Addr} {fd : FuncData} (F : FunD K "_law_store" "_law_store" (defArgs s__law_store) (defBody s__law_store) (defScope s__law_store) [] [] f fd) (gf : mg "_law_store" = some (.ref f)) (n_int : mg "int" = none) :
    Cal P w K mg base 1 "_law_store" (defArgs s__law_store) (defBody s__law_store) (defScope s__law_store) ["script"] den__law_store := by
  refine ⟨f, fd, gf, F, F.bindsN fun _ _ _ _ _ _ us hl => match us, hl with | [_], _ => rfl, fn_den (N := N__law_store) F sc__law_store fun cdv A outer s H E hr => ?_⟩
  have hN : N__law_store.Nodup := sc__law_store.nd
  have hp : PassesOwn (model P w) _ _ _ := passes_of (X := cxOf (L2N.CX P w) P w K mg base N__law_store "_law_store" (defScope s__law_store) f cdv A outer s H E) rfl
  have tk : Den.Takes (cxOf (L2N.CX P w) P w K mg base N__law_store "_law_store" (defScope s__law_store) f cdv A outer s H E) (wE E) := L2N.takes_of rfl rfl rfl rfl
  exact (ss_one (sRet (xNew (lLst (aCons (xNew (lLc 1 rfl hN (jSeq (xNew (lSl (xV 0) oNone (oSome xI)))) (fun _ _ _ _ _ => cNone) (fun _ _ _ _ _ => (xInt n_int (aCons (xV 1) aNil))))) (aCons xI (aCons xI (aCons xI (aCons xI (aCons xI (aCons xI aNil)))))))))))
def N__law_mix : List Str := ["number", "turn", "once"]
theorem sc__law_mix : FnScope N__law_mix ["number", "turn"] (defScope s__law_mix) := ⟨rfl, rfl, rfl, by decide +kernel, rfl, by decide +kernel, by decide +kernel⟩
def den__law_mix : List D → M D := runF 2 3 (gSeq (gAsg 2 [] (f2 dMod (fL dInt (aC (f2 dAdd (f2 dMul (f2 dMod (fL dInt (aC (gVar 0) aN)) (f2 dSub (f2 dPow (fC (.int 2)) (fC (.int 61))) (fC (.int 1)))) (fC (.int 6364136223846793005))) (f2 dMul (fL dInt (aC (gVar 1) aN)) (fC (.int 1442695040888963407)))) aN)) (f2 dSub (f2 dPow (fC (.int 2)) (fC (.int 61))) (fC (.int 1))))) (gRet (f2 dMod (fL dInt (aC (f2 dAdd (f2 dAdd (f2 dMul (gVar 2) (gVar 2)) (f2 dMul (fC (.int 48271)) (gVar 2))) (f2 dDiv (gVar 2) (fC (.int 1073741824)))) aN)) (fC (.int 999999999989)))))
theorem ok__law_mix {f : Addr} {fd : FuncData} (F : FunD K "_law_mix" "_law_mix" (defArgs s__law_mix) (defBody s__law_mix) (defScope s__law_mix) [] [] f fd) (gf : mg "_law_mix" = some (.ref f)) (n_int : mg "int" = none) :
    Cal P w K mg base 1 "_law_mix" (defArgs s__law_mix) (defBody s__law_mix) (defScope s__law_mix) ["number", "turn"] den__law_mix := by
  refine ⟨f, fd, gf, F, F.bindsN fun _ _ _ _ _ _ us hl => match us, hl with | [_, _], _ => rfl, fn_den (N := N__law_mix) F sc__law_mix fun cdv A outer s H E hr => ?_⟩
  have hN : N__law_mix.Nodup := sc__law_mix.nd
  have hp : PassesOwn (model P w) _ _ _ := passes_of (X := cxOf (L2N.CX P w) P w K mg base N__law_mix "_law_mix" (defScope s__law_mix) f cdv A outer s H E) rfl
  have tk : Den.Takes (cxOf (L2N.CX P w) P w K mg base N__law_mix "_law_mix" (defScope s__law_mix) f cdv A outer s H E) (wE E) := L2N.takes_of rfl rfl rfl rfl
  exact (ss_cons (sLet 2 [] hN (xMod (xInt n_int (aCons (xAdd (xMul (xMod (xInt n_int (aCons (xV 0) aNil)) (xSub (xPow xI xI) xI)) xI) (xMul (xInt n_int (aCons (xV 1) aNil)) xI)) aNil)) (xSub (xPow xI xI) xI))) (ss_one (sRet (xMod (xInt n_int (aCons (xAdd (xAdd (xMul (xV 2) (xV 2)) (xMul xI (xV 2))) (xDiv (xV 2) xI)) aNil)) xI))))
def N__law_take : List Str := ["store", "many", "cell", "digit"]
theorem sc__law_take : FnScope N__law_take ["store", "many"] (defScope s__law_take) := ⟨rfl, rfl, rfl, by decide +kernel, rfl, by decide +kernel, by decide +kernel⟩
def den__law_take : List D → M D := runF 2 4 (gSeq (gIf (t2 dLt (gVar 1) (fC (.int 2))) (gRet (fC (.int 0))) (fun ρ => pure (.nx ρ))) (gSeq (gIf (tAnd (t2 dLt (f2 dIx (gVar 0) (fC (.int 2))) (fC (.int 1))) (tAnd (t2 dLt (f2 dIx (gVar 0) (fC (.int 4))) (fC (.int 1))) (t2 dLt (f2 dIx (gVar 0) (fC (.int 1))) (fL dLen (aC (f2 dIx (gVar 0) (fC (.int 0))) aN))))) (gSeq (gAsg 2 [] (f2 dIx (f2 dIx (gVar 0) (fC (.int 0))) (f2 dIx (gVar 0) (fC (.int 1))))) (gSeq (gSetS 0 (f2 dAdd (f2 dIx (gVar 0) (fC (.int 1))) (fC (.int 1))) (fC (.int 1))) (gSeq (gSetS 0 (fL den__law_mix (aC (gVar 2) (aC (f2 dAdd (f2 dIx (gVar 0) (fC (.int 5))) (fC (.int 1))) aN))) (fC (.int 5))) (gIf (t2 dGe (gVar 2) (f2 dPow (fC (.int 10)) (fC (.int 18)))) (gSetS 0 (gVar 2) (fC (.int 2))) (gSeq (gSetS 0 (gVar 2) (fC (.int 3))) (gSetS 0 (fC (.int 3)) (fC (.int 4)))))))) (fun ρ => pure (.nx ρ))) (gSeq (gIf (t2 dGt (f2 dIx (gVar 0) (fC (.int 2))) (fC (.int 0))) (gSeq (gAsg 3 [] (f2 dMod (fL dInt (aC (f2 dIx (gVar 0) (fC (.int 2))) aN)) (gVar 1))) (gSeq (gSetS 0 (f2 dDiv (f2 dIx (gVar 0) (fC (.int 2))) (gVar 1)) (fC (.int 2))) (gRet (gVar 3)))) (fun ρ => pure (.nx ρ))) (gSeq (gSetS 0 (f2 dAdd (f2 dIx (gVar 0) (fC (.int 6))) (fC (.int 1))) (fC (.int 6))) (gSeq (gIf (t2 dGt (f2 dIx (gVar 0) (fC (.int 4))) (fC (.int 0))) (gSeq (gSetS 0 (f2 dSub (f2 dIx (gVar 0) (fC (.int 4))) (fC (.int 1))) (fC (.int 4))) (gRet (f2 dMod (fL dInt (aC (f2 dDiv (fL den__law_mix (aC (f2 dIx (gVar 0) (fC (.int 3))) (aC (f2 dIx (gVar 0) (fC (.int 6))) aN))) (fC (.int 8))) aN)) (gVar 1)))) (fun ρ => pure (.nx ρ))) (gRet (f2 dMod (fL dInt (aC (f2 dDiv (fL den__law_mix (aC (f2 dIx (gVar 0) (fC (.int 5))) (aC (f2 dIx (gVar 0) (fC (.int 6))) aN))) (fC (.int 8))) aN)) (gVar 1))))))))
theorem ok__law_take {f : Addr} {fd : FuncData} (F : FunD K "_law_take" "_law_take" (defArgs s__law_take) (defBody s__law_take) (defScope s__law_take) [] [] f fd) (gf : mg "_law_take" = some (.ref f)) (c__law_mix : Cal P w K mg base 1 "_law_mix" (defArgs s__law_mix) (defBody s__law_mix) (defScope s__law_mix) ["number", "turn"] den__law_mix) (n_int : mg "int" = none) (n_len : mg "len" = none) :
    Cal P w K mg base 2 "_law_take" (defArgs s__law_take) (defBody s__law_take) (defScope s__law_take) ["store", "many"] den__law_take := by
  refine ⟨f, fd, gf, F, F.bindsN fun _ _ _ _ _ _ us hl => match us, hl with | [_, _], _ => rfl, fn_den (N := N__law_take) F sc__law_take fun cdv A outer s H E hr => ?_⟩
  have hN : N__law_take.Nodup := sc__law_take.nd
  have hp : PassesOwn (model P w) _ _ _ := passes_of (X := cxOf (L2N.CX P w) P w K mg base N__law_take "_law_take" (defScope s__law_take) f cdv A outer s H E) rfl
  have tk : Den.Takes (cxOf (L2N.CX P w) P w K mg base N__law_take "_law_take" (defScope s__law_take) f cdv A outer s H E) (wE E) := L2N.takes_of rfl rfl rfl rfl
  exact (ss_cons (ss_if (cLt (xV 1) xI) (ss_one (sRet xI)) ss_nil) (ss_cons (ss_if (cBo (cAnd (cLt (xIx (xV 0) xI) xI) (cAnd (cLt (xIx (xV 0) xI) xI) (cAnd1 (cLt (xIx (xV 0) xI) (xLen n_len (aCons (xIx (xV 0) xI) aNil))))))) (ss_cons (sLet 2 [] hN (xIx (xIx (xV 0) xI) (xIx (xV 0) xI))) (ss_cons (sSto 0 (xAdd (xIx (xV 0) xI) xI) xI) (ss_cons (sSto 0 (xCall c__law_mix tk (hr.mono (by omega)) (aCons (xV 2) (aCons (xAdd (xIx (xV 0) xI) xI) aNil))) xI) (ss_one (ss_if (cGe (xV 2) (xPow xI xI)) (ss_one (sSto 0 (xV 2) xI)) (ss_cons (sSto 0 (xV 2) xI) (ss_one (sSto 0 xI xI)))))))) ss_nil) (ss_cons (ss_if (cGt (xIx (xV 0) xI) xI) (ss_cons (sLet 3 [] hN (xMod (xInt n_int (aCons (xIx (xV 0) xI) aNil)) (xV 1))) (ss_cons (sSto 0 (xDiv (xIx (xV 0) xI) (xV 1)) xI) (ss_one (sRet (xV 3))))) ss_nil) (ss_cons (sSto 0 (xAdd (xIx (xV 0) xI) xI) xI) (ss_cons (ss_if (cGt (xIx (xV 0) xI) xI) (ss_cons (sSto 0 (xSub (xIx (xV 0) xI) xI) xI) (ss_one (sRet (xMod (xInt n_int (aCons (xDiv (xCall c__law_mix tk (hr.mono (by omega)) (aCons (xIx (xV 0) xI) (aCons (xIx (xV 0) xI) aNil))) xI) aNil)) (xV 1))))) ss_nil) (ss_one (sRet (xMod (xInt n_int (aCons (xDiv (xCall c__law_mix tk (hr.mono (by omega)) (aCons (xIx (xV 0) xI) (aCons (xIx (xV 0) xI) aNil))) xI) aNil)) (xV 1)))))))))
def N__law_side : List Str := ["store", "most", "kind"]
theorem sc__law_side : FnScope N__law_side ["store", "most"] (defScope s__law_side) := ⟨rfl, rfl, rfl, by decide +kernel, rfl, by decide +kernel, by decide +kernel⟩
def den__law_side : List D → M D := runF 2 3 (gSeq (gAsg 2 [] (fL den__law_take (aC (gVar 0) (aC (fC (.int 5)) aN)))) (gSeq (gIf (t2 dEq (gVar 2) (fC (.int 0))) (gRet (gVar 1)) (fun ρ => pure (.nx ρ))) (gSeq (gIf (t2 dEq (gVar 2) (fC (.int 1))) (gRet (fL den__law_take (aC (gVar 0) (aC (f2 dAdd (gVar 1) (fC (.int 1))) aN)))) (fun ρ => pure (.nx ρ))) (gRet (fL den__law_take (aC (gVar 0) (aC (f2 dAdd (fL dMin (aC (gVar 1) (aC (fC (.int 4)) aN))) (fC (.int 1))) aN)))))))
theorem ok__law_side {f : Addr} {fd : FuncData} (F : FunD K "_law_side" "_law_side" (defArgs s__law_side) (defBody s__law_side) (defScope s__law_side) [] [] f fd) (gf : mg "_law_side" = some (.ref f)) (c__law_take : Cal P w K mg base 2 "_law_take" (defArgs s__law_take) (defBody s__law_take) (defScope s__law_take) ["store", "many"] den__law_take) (n_min : mg "min" = none) :
    Cal P w K mg base 3 "_law_side" (defArgs s__law_side) (defBody s__law_side) (defScope s__law_side) ["store", "most"] den__law_side := by
  refine ⟨f, fd, gf, F, F.bindsN fun _ _ _ _ _ _ us hl => match us, hl with | [_, _], _ => rfl, fn_den (N := N__law_side) F sc__law_side fun cdv A outer s H E hr => ?_⟩
  have hN : N__law_side.Nodup := sc__law_side.nd
  have hp : PassesOwn (model P w) _ _ _ := passes_of (X := cxOf (L2N.CX P w) P w K mg base N__law_side "_law_side" (defScope s__law_side) f cdv A outer s H E) rfl
  have tk : Den.Takes (cxOf (L2N.CX P w) P w K mg base N__law_side "_law_side" (defScope s__law_side) f cdv A outer s H E) (wE E) := L2N.takes_of rfl rfl rfl rfl
  exact (ss_cons (sLet 2 [] hN (xCall c__law_take tk (hr.mono (by omega)) (aCons (xV 0) (aCons xI aNil)))) (ss_cons (ss_if (cEq hr (xV 2) xI) (ss_one (sRet (xV 1))) ss_nil) (ss_cons (ss_if (cEq hr (xV 2) xI) (ss_one (sRet (xCall c__law_take tk (hr.mono (by omega)) (aCons (xV 0) (aCons (xAdd (xV 1) xI) aNil))))) ss_nil) (ss_one (sRet (xCall c__law_take tk (hr.mono (by omega)) (aCons (xV 0) (aCons (xAdd (xMin rfl n_min (aCons (xV 1) (aCons xI aNil))) xI) aNil))))))))
def N__law_sizes : List Str := ["store", "most_high", "most_wide", "high"]
theorem sc__law_sizes : FnScope N__law_sizes ["store", "most_high", "most_wide"] (defScope s__law_sizes) := ⟨rfl, rfl, rfl, by decide +kernel, rfl, by decide +kernel, by decide +kernel⟩
def den__law_sizes : List D → M D := runF 3 4 (gSeq (gAsg 3 [] (fL den__law_side (aC (gVar 0) (aC (gVar 1) aN)))) (gSeq (gIf (t2 dEq (fL den__law_take (aC (gVar 0) (aC (fC (.int 4)) aN))) (fC (.int 0))) (gRet (fNew (lDis (aC (fL dMin (aC (gVar 3) (aC (gVar 2) aN))) (aC (fL dMin (aC (gVar 3) (aC (gVar 2) aN))) aN))))) (fun ρ => pure (.nx ρ))) (gRet (fNew (lDis (aC (gVar 3) (aC (fL den__law_side (aC (gVar 0) (aC (gVar 2) aN))) aN)))))))
theorem ok__law_sizes {f : Addr} {fd : FuncData} (F : FunD K "_law_sizes" "_law_sizes" (defArgs s__law_sizes) (defBody s__law_sizes) (defScope s__law_sizes) [] [] f fd) (gf : mg "_law_sizes" = some (.ref f)) (c__law_side : Cal P w K mg base 3 "_law_side" (defArgs s__law_side) (defBody s__law_side) (defScope s__law_side) ["store", "most"] den__law_side) (c__law_take : Cal P w K mg base 2 "_law_take" (defArgs s__law_take) (defBody s__law_take) (defScope s__law_take) ["store", "many"] den__law_take) (n_min : mg "min" = none) :
    Cal P w K mg base 4 "_law_sizes" (defArgs s__law_sizes) (defBody s__law_sizes) (defScope s__law_sizes) ["store", "most_high", "most_wide"] den__law_sizes := by
  refine ⟨f, fd, gf, F, F.bindsN fun _ _ _ _ _ _ us hl => match us, hl with | [_, _, _], _ => rfl, fn_den (N := N__law_sizes) F sc__law_sizes fun cdv A outer s H E hr => ?_⟩
  have hN : N__law_sizes.Nodup := sc__law_sizes.nd
  have hp : PassesOwn (model P w) _ _ _ := passes_of (X := cxOf (L2N.CX P w) P w K mg base N__law_sizes "_law_sizes" (defScope s__law_sizes) f cdv A outer s H E) rfl
  have tk : Den.Takes (cxOf (L2N.CX P w) P w K mg base N__law_sizes "_law_sizes" (defScope s__law_sizes) f cdv A outer s H E) (wE E) := L2N.takes_of rfl rfl rfl rfl
  exact (ss_cons (sLet 3 [] hN (xCall c__law_side tk (hr.mono (by omega)) (aCons (xV 0) (aCons (xV 1) aNil)))) (ss_cons (ss_if (cEq hr (xCall c__law_take tk (hr.mono (by omega)) (aCons (xV 0) (aCons xI aNil))) xI) (ss_one (sRet (xNew (lLst (aCons (xMin rfl n_min (aCons (xV 3) (aCons (xV 2) aNil))) (aCons (xMin rfl n_min (aCons (xV 3) (aCons (xV 2) aNil))) aNil)))))) ss_nil) (ss_one (sRet (xNew (lLst (aCons (xV 3) (aCons (xCall c__law_side tk (hr.mono (by omega)) (aCons (xV 0) (aCons (xV 2) aNil))) aNil))))))))
def N__law_turn : List Str := ["grid", "rows", "k", "row"]
theorem sc__law_turn : FnScope N__law_turn ["grid"] (defScope s__law_turn) := ⟨rfl, rfl, rfl, by decide +kernel, rfl, by decide +kernel, by decide +kernel⟩
def den__law_turn : List D → M D := runF 1 4 (gSeq (gNew 1 [] (lDis aN)) (gSeq (gFor (iRan 1 (aC (f2 dIx (gVar 0) (fC (.int 2))) aN)) (bName 2) (gApp 1 [] (fL dTuple (aC (fNew (compV (eName 3) (iSeq (f2 dIx (gVar 0) (fC (.int 3)))) tYes (f2 dIx (gVar 3) (gVar 2)))) aN)))) (gRet (fTup (aC (fC (.str "table")) (aC (f2 dIx (gVar 0) (fC (.int 2))) (aC (f2 dIx (gVar 0) (fC (.int 1))) (aC (fL dTuple (aC (gVar 1) aN)) aN))))))))
theorem ok__law_turn {f : Addr} {fd : FuncData} (F : FunD K "_law_turn" "_law_turn" (defArgs s__law_turn) (defBody s__law_turn) (defScope s__law_turn) [] [] f fd) (gf : mg "_law_turn" = some (.ref f)) (n_range : mg "range" = none) (n_tuple : mg "tuple" = none) :
    Cal P w K mg base 1 "_law_turn" (defArgs s__law_turn) (defBody s__law_turn) (defScope s__law_turn) ["grid"] den__law_turn := by
  refine ⟨f, fd, gf, F, F.bindsN fun _ _ _ _ _ _ us hl => match us, hl with | [_], _ => rfl, fn_den (N := N__law_turn) F sc__law_turn fun cdv A outer s H E hr => ?_⟩
  have hN : N__law_turn.Nodup := sc__law_turn.nd
  have hp : PassesOwn (model P w) _ _ _ := passes_of (X := cxOf (L2N.CX P w) P w K mg base N__law_turn "_law_turn" (defScope s__law_turn) f cdv A outer s H E) rfl
  have tk : Den.Takes (cxOf (L2N.CX P w) P w K mg base N__law_turn "_law_turn" (defScope s__law_turn) f cdv A outer s H E) (wE E) := L2N.takes_of rfl rfl rfl rfl
  exact (ss_cons (sOwn 1 [] hN (lLst aNil)) (ss_cons (sFor 2 hN hp rfl (jR1 n_range (aCons (xIx (xV 0) xI) aNil)) (ss_one (sApp 1 [] (xTuple n_tuple (aCons (xNew (lLc 3 rfl hN (jSeq (xIx (xV 0) xI)) (fun _ _ _ _ _ => cNone) (fun _ _ _ _ _ => (xIx (xV 3) (xV 2))))) aNil))))) (ss_one (sRet (xTup (aCons xS (aCons (xIx (xV 0) xI) (aCons (xIx (xV 0) xI) (aCons (xTuple n_tuple (aCons (xV 1) aNil)) aNil)))))))))
def N__law_lot : List Str := ["store", "limit", "kind", "spot", "k"]
theorem sc__law_lot : FnScope N__law_lot ["store", "limit"] (defScope s__law_lot) := ⟨rfl, rfl, rfl, by decide +kernel, rfl, by decide +kernel, by decide +kernel⟩
def den__law_lot : List D → M D := runF 2 5 (gSeq (gAsg 2 [] (fL den__law_take (aC (gVar 0) (aC (fC (.int 6)) aN)))) (gSeq (gIf (t2 dEq (gVar 2) (fC (.int 0))) (gRet (fTup aN)) (fun ρ => pure (.nx ρ))) (gSeq (gIf (t2 dEq (gVar 2) (fC (.int 1))) (gRet (fL dTuple (aC (fNew (compV (eName 4) (iRan 1 (aC (gVar 1) aN)) tYes (gVar 4))) aN))) (fun ρ => pure (.nx ρ))) (gSeq (gAsg 3 [] (fC (.int 0))) (gSeq (gIf (t2 dLt (gVar 2) (fC (.int 4))) (gAsg 3 [] (fL den__law_take (aC (gVar 0) (aC (gVar 1) aN)))) (fun ρ => pure (.nx ρ))) (gSeq (gIf (t2 dEq (gVar 2) (fC (.int 2))) (gRet (fL dTuple (aC (fNew (compV (eName 4) (iRan 1 (aC (gVar 1) aN)) (t2 dEq (gVar 4) (gVar 3)) (gVar 4))) aN))) (fun ρ => pure (.nx ρ))) (gSeq (gIf (t2 dEq (gVar 2) (fC (.int 3))) (gRet (fL dTuple (aC (fNew (compV (eName 4) (iRan 1 (aC (gVar 1) aN)) (t2 dNe (gVar 4) (gVar 3)) (gVar 4))) aN))) (fun ρ => pure (.nx ρ))) (gRet (fL dTuple (aC (fNew (compV (eName 4) (iRan 1 (aC (gVar 1) aN)) (t2 dEq (fL den__law_take (aC (gVar 0) (aC (fC (.int 2)) aN))) (fC (.int 1))) (gVar 4))) aN))))))))))
theorem ok__law_lot {f : Addr} {fd : FuncData} (F : FunD K "_law_lot" "_law_lot" (defArgs s__law_lot) (defBody s__law_lot) (defScope s__law_lot) [] [] f fd) (gf : mg "_law_lot" = some (.ref f)) (c__law_take : Cal P w K mg base 2 "_law_take" (defArgs s__law_take) (defBody s__law_take) (defScope s__law_take) ["store", "many"] den__law_take) (n_range : mg "range" = none) (n_tuple : mg "tuple" = none) :
    Cal P w K mg base 3 "_law_lot" (defArgs s__law_lot) (defBody s__law_lot) (defScope s__law_lot) ["store", "limit"] den__law_lot := by
  refine ⟨f, fd, gf, F, F.bindsN fun _ _ _ _ _ _ us hl => match us, hl with | [_, _], _ => rfl, fn_den (N := N__law_lot) F sc__law_lot fun cdv A outer s H E hr => ?_⟩
  have hN : N__law_lot.Nodup := sc__law_lot.nd
  have hp : PassesOwn (model P w) _ _ _ := passes_of (X := cxOf (L2N.CX P w) P w K mg base N__law_lot "_law_lot" (defScope s__law_lot) f cdv A outer s H E) rfl
  have tk : Den.Takes (cxOf (L2N.CX P w) P w K mg base N__law_lot "_law_lot" (defScope s__law_lot) f cdv A outer s H E) (wE E) := L2N.takes_of rfl rfl rfl rfl
  exact (ss_cons (sLet 2 [] hN (xCall c__law_take tk (hr.mono (by omega)) (aCons (xV 0) (aCons xI aNil)))) (ss_cons (ss_if (cEq hr (xV 2) xI) (ss_one (sRet (xTup aNil))) ss_nil) (ss_cons (ss_if (cEq hr (xV 2) xI) (ss_one (sRet (xTuple n_tuple (aCons (xNew (lLc 4 rfl hN (jR1 n_range (aCons (xV 1) aNil)) (fun _ _ _ _ _ => cNone) (fun _ _ _ _ _ => (xV 4)))) aNil)))) ss_nil) (ss_cons (sLet 3 [] hN xI) (ss_cons (ss_if (cLt (xV 2) xI) (ss_one (sLet 3 [] hN (xCall c__law_take tk (hr.mono (by omega)) (aCons (xV 0) (aCons (xV 1) aNil))))) ss_nil) (ss_cons (ss_if (cEq hr (xV 2) xI) (ss_one (sRet (xTuple n_tuple (aCons (xNew (lLc 4 rfl hN (jR1 n_range (aCons (xV 1) aNil)) (fun _ _ _ _ _ => (cOne (cEq hr (xV 4) (xV 3)))) (fun _ _ _ _ _ => (xV 4)))) aNil)))) ss_nil) (ss_cons (ss_if (cEq hr (xV 2) xI) (ss_one (sRet (xTuple n_tuple (aCons (xNew (lLc 4 rfl hN (jR1 n_range (aCons (xV 1) aNil)) (fun _ _ _ _ _ => (cOne (cNe hr (xV 4) (xV 3)))) (fun _ _ _ _ _ => (xV 4)))) aNil)))) ss_nil) (ss_one (sRet (xTuple n_tuple (aCons (xNew (lLc 4 rfl hN (jR1 n_range (aCons (xV 1) aNil)) (fun _ _ _ _ _ => (cOne (cEq hr (xCall c__law_take tk0 (hr.mono (by omega)) (aCons (xV 0) (aCons xI aNil))) xI))) (fun _ _ _ _ _ => (xV 4)))) aNil)))))))))))
def N__law_pick : List Str := ["store", "things"]
theorem sc__law_pick : FnScope N__law_pick ["store", "things"] (defScope s__law_pick) := ⟨rfl, rfl, rfl, by decide +kernel, rfl, by decide +kernel, by decide +kernel⟩
def den__law_pick : List D → M D := runF 2 2 (gSeq (gIf (t2 dEq (fL dLen (aC (gVar 1) aN)) (fC (.int 0))) (gRet (fC .non)) (fun ρ => pure (.nx ρ))) (gRet (f2 dIx (gVar 1) (fL den__law_take (aC (gVar 0) (aC (fL dLen (aC (gVar 1) aN)) aN))))))
theorem ok__law_pick {f : Addr} {fd : FuncData} (F : FunD K "_law_pick" "_law_pick" (defArgs s__law_pick) (defBody s__law_pick) (defScope s__law_pick) [] [] f fd) (gf : mg "_law_pick" = some (.ref f)) (c__law_take : Cal P w K mg base 2 "_law_take" (defArgs s__law_take) (defBody s__law_take) (defScope s__law_take) ["store", "many"] den__law_take) (n_len : mg "len" = none) :
    Cal P w K mg base 3 "_law_pick" (defArgs s__law_pick) (defBody s__law_pick) (defScope s__law_pick) ["store", "things"] den__law_pick := by
  refine ⟨f, fd, gf, F, F.bindsN fun _ _ _ _ _ _ us hl => match us, hl with | [_, _], _ => rfl, fn_den (N := N__law_pick) F sc__law_pick fun cdv A outer s H E hr => ?_⟩
  have hN : N__law_pick.Nodup := sc__law_pick.nd
  have hp : PassesOwn (model P w) _ _ _ := passes_of (X := cxOf (L2N.CX P w) P w K mg base N__law_pick "_law_pick" (defScope s__law_pick) f cdv A outer s H E) rfl
  have tk : Den.Takes (cxOf (L2N.CX P w) P w K mg base N__law_pick "_law_pick" (defScope s__law_pick) f cdv A outer s H E) (wE E) := L2N.takes_of rfl rfl rfl rfl
  exact (ss_cons (ss_if (cEq hr (xLen n_len (aCons (xV 1) aNil)) xI) (ss_one (sRet xN)) ss_nil) (ss_one (sRet (xIx (xV 1) (xCall c__law_take tk (hr.mono (by omega)) (aCons (xV 0) (aCons (xLen n_len (aCons (xV 1) aNil)) aNil)))))))
def N__law_join : List Str := ["lots", "out", "k", "lot"]
theorem sc__law_join : FnScope N__law_join ["lots"] (defScope s__law_join) := ⟨rfl, rfl, rfl, by decide +kernel, rfl, by decide +kernel, by decide +kernel⟩
def den__law_join : List D → M D := runF 1 4 (gSeq (gNew 1 [] (lDis aN)) (gSeq (gFor (iRan 1 (aC (fC (.int 6)) aN)) (bName 2) (gIf (tT (fL dAny (aC (fNew (compV (eName 3) (iSeq (gVar 0)) tYes (f2 dIn (gVar 2) (gVar 3)))) aN))) (gApp 1 [] (gVar 2)) (fun ρ => pure (.nx ρ)))) (gRet (fL dTuple (aC (gVar 1) aN)))))
theorem ok__law_join {f : Addr} {fd : FuncData} (F : FunD K "_law_join" "_law_join" (defArgs s__law_join) (defBody s__law_join) (defScope s__law_join) [] [] f fd) (gf : mg "_law_join" = some (.ref f)) (n_any : mg "any" = none) (n_range : mg "range" = none) (n_tuple : mg "tuple" = none) :
    Cal P w K mg base 1 "_law_join" (defArgs s__law_join) (defBody s__law_join) (defScope s__law_join) ["lots"] den__law_join := by
  refine ⟨f, fd, gf, F, F.bindsN fun _ _ _ _ _ _ us hl => match us, hl with | [_], _ => rfl, fn_den (N := N__law_join) F sc__law_join fun cdv A outer s H E hr => ?_⟩
  have hN : N__law_join.Nodup := sc__law_join.nd
  have hp : PassesOwn (model P w) _ _ _ := passes_of (X := cxOf (L2N.CX P w) P w K mg base N__law_join "_law_join" (defScope s__law_join) f cdv A outer s H E) rfl
  have tk : Den.Takes (cxOf (L2N.CX P w) P w K mg base N__law_join "_law_join" (defScope s__law_join) f cdv A outer s H E) (wE E) := L2N.takes_of rfl rfl rfl rfl
  exact (ss_cons (sOwn 1 [] hN (lLst aNil)) (ss_cons (sFor 2 hN hp rfl (jR1 n_range (aCons xI aNil)) (ss_one (ss_if (cTru (xAny rfl n_any (aCons (xNew (lLc 3 rfl hN (jSeq (xV 0)) (fun _ _ _ _ _ => cNone) (fun _ _ _ _ _ => (xIn (xV 2) (xV 3))))) aNil))) (ss_one (sApp 1 [] (xV 2))) ss_nil))) (ss_one (sRet (xTuple n_tuple (aCons (xV 1) aNil))))))
def N__law_of : List Str := ["lots", "wide", "rows", "lot", "k"]
theorem sc__law_of : FnScope N__law_of ["lots", "wide"] (defScope s__law_of) := ⟨rfl, rfl, rfl, by decide +kernel, rfl, by decide +kernel, by decide +kernel⟩
def den__law_of : List D → M D := runF 2 5 (gSeq (gNew 2 [] (lDis aN)) (gSeq (gFor (iSeq (gVar 0)) (bName 3) (gApp 2 [] (fL dTuple (aC (fNew (compV (eName 4) (iRan 1 (aC (gVar 1) aN)) tYes (f2 dIn (gVar 4) (gVar 3)))) aN)))) (gRet (fTup (aC (fC (.str "table")) (aC (fL dLen (aC (gVar 2) aN)) (aC (gVar 1) (aC (fL dTuple (aC (gVar 2) aN)) aN))))))))
theorem ok__law_of {f : Addr} {fd : FuncData} (F : FunD K "_law_of" "_law_of" (defArgs s__law_of) (defBody s__law_of) (defScope s__law_of) [] [] f fd) (gf : mg "_law_of" = some (.ref f)) (n_len : mg "len" = none) (n_range : mg "range" = none) (n_tuple : mg "tuple" = none) :
    Cal P w K mg base 1 "_law_of" (defArgs s__law_of) (defBody s__law_of) (defScope s__law_of) ["lots", "wide"] den__law_of := by
  refine ⟨f, fd, gf, F, F.bindsN fun _ _ _ _ _ _ us hl => match us, hl with | [_, _], _ => rfl, fn_den (N := N__law_of) F sc__law_of fun cdv A outer s H E hr => ?_⟩
  have hN : N__law_of.Nodup := sc__law_of.nd
  have hp : PassesOwn (model P w) _ _ _ := passes_of (X := cxOf (L2N.CX P w) P w K mg base N__law_of "_law_of" (defScope s__law_of) f cdv A outer s H E) rfl
  have tk : Den.Takes (cxOf (L2N.CX P w) P w K mg base N__law_of "_law_of" (defScope s__law_of) f cdv A outer s H E) (wE E) := L2N.takes_of rfl rfl rfl rfl
  exact (ss_cons (sOwn 2 [] hN (lLst aNil)) (ss_cons (sFor 3 hN hp rfl (jSeq (xV 0)) (ss_one (sApp 2 [] (xTuple n_tuple (aCons (xNew (lLc 4 rfl hN (jR1 n_range (aCons (xV 1) aNil)) (fun _ _ _ _ _ => cNone) (fun _ _ _ _ _ => (xIn (xV 4) (xV 3))))) aNil))))) (ss_one (sRet (xTup (aCons xS (aCons (xLen n_len (aCons (xV 2) aNil)) (aCons (xV 1) (aCons (xTuple n_tuple (aCons (xV 2) aNil)) aNil)))))))))
def N__law_twin : List Str := ["store", "high", "wide", "base", "lots", "i", "kind", "lot", "k"]
theorem sc__law_twin : FnScope N__law_twin ["store", "high", "wide"] (defScope s__law_twin) := ⟨rfl, rfl, rfl, by decide +kernel, rfl, by decide +kernel, by decide +kernel⟩
def den__law_twin : List D → M D := runF 3 9 (gSeq (gAsg 3 [] (fNew (compV (eName 8) (iRan 1 (aC (f2 dAdd (fC (.int 1)) (fL den__law_take (aC (gVar 0) (aC (fC (.int 3)) aN)))) aN)) tYes (fL den__law_lot (aC (gVar 0) (aC (gVar 2) aN)))))) (gSeq (gNew 4 [] (lDis aN)) (gSeq (gFor (iRan 1 (aC (gVar 1) aN)) (bName 5) (gSeq (gAsg 6 [] (fL den__law_take (aC (gVar 0) (aC (fC (.int 4)) aN)))) (gSeq (gAsg 7 [] (fL den__law_pick (aC (gVar 0) (aC (gVar 3) aN)))) (gSeq (gIf (t2 dEq (gVar 6) (fC (.int 0))) (gAsg 7 [] (fL den__law_join (aC (fNew (lDis (aC (gVar 7) (aC (fL den__law_pick (aC (gVar 0) (aC (gVar 3) aN))) aN)))) aN))) (fun ρ => pure (.nx ρ))) (gSeq (gIf (tAnd (t2 dEq (gVar 6) (fC (.int 1))) (t2 dEq (fL den__law_take (aC (gVar 0) (aC (fC (.int 3)) aN))) (fC (.int 0)))) (gAsg 7 [] (fTup aN)) (fun ρ => pure (.nx ρ))) (gApp 4 [] (gVar 7))))))) (gRet (fL den__law_of (aC (gVar 4) (aC (gVar 2) aN)))))))
theorem ok__law_twin {f : Addr} {fd : FuncData} (F : FunD K "_law_twin" "_law_twin" (defArgs s__law_twin) (defBody s__law_twin) (defScope s__law_twin) [] [] f fd) (gf : mg "_law_twin" = some (.ref f)) (c__law_join : Cal P w K mg base 1 "_law_join" (defArgs s__law_join) (defBody s__law_join) (defScope s__law_join) ["lots"] den__law_join) (c__law_lot : Cal P w K mg base 3 "_law_lot" (defArgs s__law_lot) (defBody s__law_lot) (defScope s__law_lot) ["store", "limit"] den__law_lot) (c__law_of : Cal P w K mg base 1 "_law_of" (defArgs s__law_of) (defBody s__law_of) (defScope s__law_of) ["lots", "wide"] den__law_of) (c__law_pick : Cal P w K mg base 3 "_law_pick" (defArgs s__law_pick) (defBody s__law_pick) (defScope s__law_pick) ["store", "things"] den__law_pick) (c__law_take : Cal P w K mg base 2 "_law_take" (defArgs s__law_take) (defBody s__law_take) (defScope s__law_take) ["store", "many"] den__law_take) (n_range : mg "range" = none) :
    Cal P w K mg base 4 "_law_twin" (defArgs s__law_twin) (defBody s__law_twin) (defScope s__law_twin) ["store", "high", "wide"] den__law_twin := by
  refine ⟨f, fd, gf, F, F.bindsN fun _ _ _ _ _ _ us hl => match us, hl with | [_, _, _], _ => rfl, fn_den (N := N__law_twin) F sc__law_twin fun cdv A outer s H E hr => ?_⟩
  have hN : N__law_twin.Nodup := sc__law_twin.nd
  have hp : PassesOwn (model P w) _ _ _ := passes_of (X := cxOf (L2N.CX P w) P w K mg base N__law_twin "_law_twin" (defScope s__law_twin) f cdv A outer s H E) rfl
  have tk : Den.Takes (cxOf (L2N.CX P w) P w K mg base N__law_twin "_law_twin" (defScope s__law_twin) f cdv A outer s H E) (wE E) := L2N.takes_of rfl rfl rfl rfl
  exact (ss_cons (sLetLc [] (sLc (W := wE E) 3 8 [] rfl hN (jR1 n_range (aCons (xAdd xI (xCall c__law_take tk (hr.mono (by omega)) (aCons (xV 0) (aCons xI aNil)))) aNil)) (fun _ _ _ _ _ => cNone) (fun _ _ _ _ _ => (xCall c__law_lot tk0 (hr.mono (by omega)) (aCons (xV 0) (aCons (xV 2) aNil)))))) (ss_cons (sOwn 4 [] hN (lLst aNil)) (ss_cons (sFor 5 hN hp rfl (jR1 n_range (aCons (xV 1) aNil)) (ss_cons (sLet 6 [] hN (xCall c__law_take tk (hr.mono (by omega)) (aCons (xV 0) (aCons xI aNil)))) (ss_cons (sLet 7 [] hN (xCall c__law_pick tk (hr.mono (by omega)) (aCons (xV 0) (aCons (xV 3) aNil)))) (ss_cons (ss_if (cEq hr (xV 6) xI) (ss_one (sLet 7 [] hN (xCall c__law_join tk (hr.mono (by omega)) (aCons (xNew (lLst (aCons (xV 7) (aCons (xCall c__law_pick tk (hr.mono (by omega)) (aCons (xV 0) (aCons (xV 3) aNil))) aNil)))) aNil)))) ss_nil) (ss_cons (ss_if (cBo (cAnd (cEq hr (xV 6) xI) (cAnd1 (cEq hr (xCall c__law_take tk (hr.mono (by omega)) (aCons (xV 0) (aCons xI aNil))) xI)))) (ss_one (sLet 7 [] hN (xTup aNil))) ss_nil) (ss_one (sApp 4 [] (xV 7)))))))) (ss_one (sRet (xCall c__law_of tk (hr.mono (by omega)) (aCons (xV 4) (aCons (xV 2) aNil))))))))
def N__law_shuffle : List Str := ["store", "things", "left", "out", "k", "one"]
theorem sc__law_shuffle : FnScope N__law_shuffle ["store", "things"] (defScope s__law_shuffle) := ⟨rfl, rfl, rfl, by decide +kernel, rfl, by decide +kernel, by decide +kernel⟩
def den__law_shuffle : List D → M D := runF 2 6 (gSeq (gNew 2 [] (compV (eName 5) (iSeq (gVar 1)) tYes (gVar 5))) (gSeq (gNew 3 [] (lDis aN)) (gSeq (gFor (iRan 1 (aC (fL dLen (aC (gVar 1) aN)) aN)) (bName 4) (gMov 3 2 (fL den__law_take (aC (gVar 0) (aC (fL dLen (aC (gVar 2) aN)) aN))))) (gRet (gVar 3)))))
theorem ok__law_shuffle {f : Addr} {fd : FuncData} (F : FunD K "_law_shuffle" "_law_shuffle" (defArgs s__law_shuffle) (defBody s__law_shuffle) (defScope s__law_shuffle) [] [] f fd) (gf : mg "_law_shuffle" = some (.ref f)) (c__law_take : Cal P w K mg base 2 "_law_take" (defArgs s__law_take) (defBody s__law_take) (defScope s__law_take) ["store", "many"] den__law_take) (n_len : mg "len" = none) (n_range : mg "range" = none) :
    Cal P w K mg base 3 "_law_shuffle" (defArgs s__law_shuffle) (defBody s__law_shuffle) (defScope s__law_shuffle) ["store", "things"] den__law_shuffle := by
  refine ⟨f, fd, gf, F, F.bindsN fun _ _ _ _ _ _ us hl => match us, hl with | [_, _], _ => rfl, fn_den (N := N__law_shuffle) F sc__law_shuffle fun cdv A outer s H E hr => ?_⟩
  have hN : N__law_shuffle.Nodup := sc__law_shuffle.nd
  have hp : PassesOwn (model P w) _ _ _ := passes_of (X := cxOf (L2N.CX P w) P w K mg base N__law_shuffle "_law_shuffle" (defScope s__law_shuffle) f cdv A outer s H E) rfl
  have tk : Den.Takes (cxOf (L2N.CX P w) P w K mg base N__law_shuffle "_law_shuffle" (defScope s__law_shuffle) f cdv A outer s H E) (wE E) := L2N.takes_of rfl rfl rfl rfl
  exact (ss_cons (sOwnLc [] (sLc (W := wE E) 2 5 [] rfl hN (jSeq (xV 1)) (fun _ _ _ _ _ => cNone) (fun _ _ _ _ _ => (xV 5)))) (ss_cons (sOwn 3 [] hN (lLst aNil)) (ss_cons (sFor 4 hN hp rfl (jR1 n_range (aCons (xLen n_len (aCons (xV 1) aNil)) aNil)) (ss_one (sMov 3 2 (xCall c__law_take tk (hr.mono (by omega)) (aCons (xV 0) (aCons (xLen n_len (aCons (xV 2) aNil)) aNil)))))) (ss_one (sRet (xV 3))))))
def N__law_placing : List Str := ["store", "many", "kind", "k"]
theorem sc__law_placing : FnScope N__law_placing ["store", "many"] (defScope s__law_placing) := ⟨rfl, rfl, rfl, by decide +kernel, rfl, by decide +kernel, by decide +kernel⟩
def den__law_placing : List D → M D := runF 2 4 (gSeq (gAsg 2 [] (fL den__law_take (aC (gVar 0) (aC (fC (.int 6)) aN)))) (gSeq (gIf (t2 dEq (gVar 2) (fC (.int 0))) (gRet (fL dTuple (aC (fNew (compV (eName 3) (iRan 1 (aC (gVar 1) aN)) tYes (gVar 3))) aN))) (fun ρ => pure (.nx ρ))) (gSeq (gIf (t2 dEq (gVar 2) (fC (.int 1))) (gRet (fL dTuple (aC (fNew (compV (eName 3) (iRan 1 (aC (gVar 1) aN)) tYes (f2 dMod (fL dInt (aC (f2 dAdd (gVar 3) (fC (.int 1))) aN)) (gVar 1)))) aN))) (fun ρ => pure (.nx ρ))) (gSeq (gIf (t2 dEq (gVar 2) (fC (.int 2))) (gRet (fL dTuple (aC (fNew (compV (eName 3) (iRan 1 (aC (gVar 1) aN)) tYes (f2 dSub (f2 dSub (gVar 1) (fC (.int 1))) (gVar 3)))) aN))) (fun ρ => pure (.nx ρ))) (gRet (fL dTuple (aC (fL den__law_shuffle (aC (gVar 0) (aC (fNew (compV (eName 3) (iRan 1 (aC (gVar 1) aN)) tYes (gVar 3))) aN))) aN)))))))
theorem ok__law_placing {f : Addr} {fd : FuncData} (F : FunD K "_law_placing" "_law_placing" (defArgs s__law_placing) (defBody s__law_placing) (defScope s__law_placing) [] [] f fd) (gf : mg "_law_placing" = some (.ref f)) (c__law_shuffle : Cal P w K mg base 3 "_law_shuffle" (defArgs s__law_shuffle) (defBody s__law_shuffle) (defScope s__law_shuffle) ["store", "things"] den__law_shuffle) (c__law_take : Cal P w K mg base 2 "_law_take" (defArgs s__law_take) (defBody s__law_take) (defScope s__law_take) ["store", "many"] den__law_take) (n_int : mg "int" = none) (n_range : mg "range" = none) (n_tuple : mg "tuple" = none) :
    Cal P w K mg base 4 "_law_placing" (defArgs s__law_placing) (defBody s__law_placing) (defScope s__law_placing) ["store", "many"] den__law_placing := by
  refine ⟨f, fd, gf, F, F.bindsN fun _ _ _ _ _ _ us hl => match us, hl with | [_, _], _ => rfl, fn_den (N := N__law_placing) F sc__law_placing fun cdv A outer s H E hr => ?_⟩
  have hN : N__law_placing.Nodup := sc__law_placing.nd
  have hp : PassesOwn (model P w) _ _ _ := passes_of (X := cxOf (L2N.CX P w) P w K mg base N__law_placing "_law_placing" (defScope s__law_placing) f cdv A outer s H E) rfl
  have tk : Den.Takes (cxOf (L2N.CX P w) P w K mg base N__law_placing "_law_placing" (defScope s__law_placing) f cdv A outer s H E) (wE E) := L2N.takes_of rfl rfl rfl rfl
  exact (ss_cons (sLet 2 [] hN (xCall c__law_take tk (hr.mono (by omega)) (aCons (xV 0) (aCons xI aNil)))) (ss_cons (ss_if (cEq hr (xV 2) xI) (ss_one (sRet (xTuple n_tuple (aCons (xNew (lLc 3 rfl hN (jR1 n_range (aCons (xV 1) aNil)) (fun _ _ _ _ _ => cNone) (fun _ _ _ _ _ => (xV 3)))) aNil)))) ss_nil) (ss_cons (ss_if (cEq hr (xV 2) xI) (ss_one (sRet (xTuple n_tuple (aCons (xNew (lLc 3 rfl hN (jR1 n_range (aCons (xV 1) aNil)) (fun _ _ _ _ _ => cNone) (fun _ _ _ _ _ => (xMod (xInt n_int (aCons (xAdd (xV 3) xI) aNil)) (xV 1))))) aNil)))) ss_nil) (ss_cons (ss_if (cEq hr (xV 2) xI) (ss_one (sRet (xTuple n_tuple (aCons (xNew (lLc 3 rfl hN (jR1 n_range (aCons (xV 1) aNil)) (fun _ _ _ _ _ => cNone) (fun _ _ _ _ _ => (xSub (xSub (xV 1) xI) (xV 3))))) aNil)))) ss_nil) (ss_one (sRet (xTuple n_tuple (aCons (xCall c__law_shuffle tk (hr.mono (by omega)) (aCons (xV 0) (aCons (xNew (lLc 3 rfl hN (jR1 n_range (aCons (xV 1) aNil)) (fun _ _ _ _ _ => cNone) (fun _ _ _ _ _ => (xV 3)))) aNil))) aNil))))))))
def N__law_free : List Str := ["store", "high", "wide", "kind", "lots", "i", "k"]
theorem sc__law_free : FnScope N__law_free ["store", "high", "wide"] (defScope s__law_free) := ⟨rfl, rfl, rfl, by decide +kernel, rfl, by decide +kernel, by decide +kernel⟩
def den__law_free : List D → M D := runF 3 7 (gSeq (gAsg 3 [] (fL den__law_take (aC (gVar 0) (aC (fC (.int 4)) aN)))) (gSeq (gNew 4 [] (lDis aN)) (gSeq (gFor (iRan 1 (aC (gVar 1) aN)) (bName 5) (gIf (t2 dEq (gVar 3) (fC (.int 0))) (gApp 4 [] (fL dTuple (aC (fNew (compV (eName 6) (iRan 1 (aC (gVar 2) aN)) (t2 dEq (fL den__law_take (aC (gVar 0) (aC (fC (.int 4)) aN))) (fC (.int 1))) (gVar 6))) aN))) (gIf (t2 dEq (gVar 3) (fC (.int 1))) (gApp 4 [] (fL dTuple (aC (fNew (compV (eName 6) (iRan 1 (aC (gVar 2) aN)) (t2 dNe (fL den__law_take (aC (gVar 0) (aC (fC (.int 4)) aN))) (fC (.int 1))) (gVar 6))) aN))) (gApp 4 [] (fL dTuple (aC (fNew (compV (eName 6) (iRan 1 (aC (gVar 2) aN)) (t2 dEq (fL den__law_take (aC (gVar 0) (aC (fC (.int 2)) aN))) (fC (.int 1))) (gVar 6))) aN)))))) (gRet (fL den__law_of (aC (gVar 4) (aC (gVar 2) aN)))))))
theorem ok__law_free {f : Addr} {fd : FuncData} (F : FunD K "_law_free" "_law_free" (defArgs s__law_free) (defBody s__law_free) (defScope s__law_free) [] [] f fd) (gf : mg "_law_free" = some (.ref f)) (c__law_of : Cal P w K mg base 1 "_law_of" (defArgs s__law_of) (defBody s__law_of) (defScope s__law_of) ["lots", "wide"] den__law_of) (c__law_take : Cal P w K mg base 2 "_law_take" (defArgs s__law_take) (defBody s__law_take) (defScope s__law_take) ["store", "many"] den__law_take) (n_range : mg "range" = none) (n_tuple : mg "tuple" = none) :
    Cal P w K mg base 3 "_law_free" (defArgs s__law_free) (defBody s__law_free) (defScope s__law_free) ["store", "high", "wide"] den__law_free := by
  refine ⟨f, fd, gf, F, F.bindsN fun _ _ _ _ _ _ us hl => match us, hl with | [_, _, _], _ => rfl, fn_den (N := N__law_free) F sc__law_free fun cdv A outer s H E hr => ?_⟩
  have hN : N__law_free.Nodup := sc__law_free.nd
  have hp : PassesOwn (model P w) _ _ _ := passes_of (X := cxOf (L2N.CX P w) P w K mg base N__law_free "_law_free" (defScope s__law_free) f cdv A outer s H E) rfl
  have tk : Den.Takes (cxOf (L2N.CX P w) P w K mg base N__law_free "_law_free" (defScope s__law_free) f cdv A outer s H E) (wE E) := L2N.takes_of rfl rfl rfl rfl
  exact (ss_cons (sLet 3 [] hN (xCall c__law_take tk (hr.mono (by omega)) (aCons (xV 0) (aCons xI aNil)))) (ss_cons (sOwn 4 [] hN (lLst aNil)) (ss_cons (sFor 5 hN hp rfl (jR1 n_range (aCons (xV 1) aNil)) (ss_one (ss_if (cEq hr (xV 3) xI) (ss_one (sApp 4 [] (xTuple n_tuple (aCons (xNew (lLc 6 rfl hN (jR1 n_range (aCons (xV 2) aNil)) (fun _ _ _ _ _ => (cOne (cEq hr (xCall c__law_take tk0 (hr.mono (by omega)) (aCons (xV 0) (aCons xI aNil))) xI))) (fun _ _ _ _ _ => (xV 6)))) aNil)))) (ss_one (ss_if (cEq hr (xV 3) xI) (ss_one (sApp 4 [] (xTuple n_tuple (aCons (xNew (lLc 6 rfl hN (jR1 n_range (aCons (xV 2) aNil)) (fun _ _ _ _ _ => (cOne (cNe hr (xCall c__law_take tk0 (hr.mono (by omega)) (aCons (xV 0) (aCons xI aNil))) xI))) (fun _ _ _ _ _ => (xV 6)))) aNil)))) (ss_one (sApp 4 [] (xTuple n_tuple (aCons (xNew (lLc 6 rfl hN (jR1 n_range (aCons (xV 2) aNil)) (fun _ _ _ _ _ => (cOne (cEq hr (xCall c__law_take tk0 (hr.mono (by omega)) (aCons (xV 0) (aCons xI aNil))) xI))) (fun _ _ _ _ _ => (xV 6)))) aNil))))))))) (ss_one (sRet (xCall c__law_of tk (hr.mono (by omega)) (aCons (xV 4) (aCons (xV 2) aNil))))))))
def N__law_some_grid : List Str := ["store", "high", "wide", "kind", "lot", "placing", "i", "k"]
theorem sc__law_some_grid : FnScope N__law_some_grid ["store", "high", "wide"] (defScope s__law_some_grid) := ⟨rfl, rfl, rfl, by decide +kernel, rfl, by decide +kernel, by decide +kernel⟩
def den__law_some_grid : List D → M D := runF 3 8 (gSeq (gAsg 3 [] (fL den__law_take (aC (gVar 0) (aC (fC (.int 6)) aN)))) (gSeq (gIf (t2 dEq (gVar 3) (fC (.int 0))) (gSeq (gAsg 4 [] (fL den__law_pick (aC (gVar 0) (aC (fNew (lDis (aC (fTup aN) (aC (fL dTuple (aC (fNew (compV (eName 7) (iRan 1 (aC (gVar 2) aN)) tYes (gVar 7))) aN)) aN)))) aN)))) (gRet (fL den__law_of (aC (fNew (compV (eName 6) (iRan 1 (aC (gVar 1) aN)) tYes (gVar 4))) (aC (gVar 2) aN))))) (fun ρ => pure (.nx ρ))) (gSeq (gIf (t2 dEq (gVar 3) (fC (.int 1))) (gSeq (gAsg 5 [] (fL den__law_placing (aC (gVar 0) (aC (fL dMax (aC (gVar 1) (aC (gVar 2) aN))) aN)))) (gRet (fL den__law_of (aC (fNew (compV (eName 6) (iRan 1 (aC (gVar 1) aN)) tYes (fL dTuple (aC (fNew (compV (eName 7) (iRan 1 (aC (gVar 2) aN)) (t2 dEq (gVar 7) (f2 dIx (gVar 5) (gVar 6))) (gVar 7))) aN)))) (aC (gVar 2) aN))))) (fun ρ => pure (.nx ρ))) (gSeq (gIf (t2 dEq (gVar 3) (fC (.int 2))) (gRet (fL den__law_twin (aC (gVar 0) (aC (gVar 1) (aC (gVar 2) aN))))) (fun ρ => pure (.nx ρ))) (gRet (fL den__law_free (aC (gVar 0) (aC (gVar 1) (aC (gVar 2) aN)))))))))
theorem ok__law_some_grid {f : Addr} {fd : FuncData} (F : FunD K "_law_some_grid" "_law_some_grid" (defArgs s__law_some_grid) (defBody s__law_some_grid) (defScope s__law_some_grid) [] [] f fd) (gf : mg "_law_some_grid" = some (.ref f)) (c__law_free : Cal P w K mg base 3 "_law_free" (defArgs s__law_free) (defBody s__law_free) (defScope s__law_free) ["store", "high", "wide"] den__law_free) (c__law_of : Cal P w K mg base 1 "_law_of" (defArgs s__law_of) (defBody s__law_of) (defScope s__law_of) ["lots", "wide"] den__law_of) (c__law_pick : Cal P w K mg base 3 "_law_pick" (defArgs s__law_pick) (defBody s__law_pick) (defScope s__law_pick) ["store", "things"] den__law_pick) (c__law_placing : Cal P w K mg base 4 "_law_placing" (defArgs s__law_placing) (defBody s__law_placing) (defScope s__law_placing) ["store", "many"] den__law_placing) (c__law_take : Cal P w K mg base 2 "_law_take" (defArgs s__law_take) (defBody s__law_take) (defScope s__law_take) ["store", "many"] den__law_take) (c__law_twin : Cal P w K mg base 4 "_law_twin" (defArgs s__law_twin) (defBody s__law_twin) (defScope s__law_twin) ["store", "high", "wide"] den__law_twin) (n_max : mg "max" = none) (n_range : mg "range" = none) (n_tuple : mg "tuple" = none) :
    Cal P w K mg base 5 "_law_some_grid" (defArgs s__law_some_grid) (defBody s__law_some_grid) (defScope s__law_some_grid) ["store", "high", "wide"] den__law_some_grid := by
  refine ⟨f, fd, gf, F, F.bindsN fun _ _ _ _ _ _ us hl => match us, hl with | [_, _, _], _ => rfl, fn_den (N := N__law_some_grid) F sc__law_some_grid fun cdv A outer s H E hr => ?_⟩
  have hN : N__law_some_grid.Nodup := sc__law_some_grid.nd
  have hp : PassesOwn (model P w) _ _ _ := passes_of (X := cxOf (L2N.CX P w) P w K mg base N__law_some_grid "_law_some_grid" (defScope s__law_some_grid) f cdv A outer s H E) rfl
  have tk : Den.Takes (cxOf (L2N.CX P w) P w K mg base N__law_some_grid "_law_some_grid" (defScope s__law_some_grid) f cdv A outer s H E) (wE E) := L2N.takes_of rfl rfl rfl rfl
  exact (ss_cons (sLet 3 [] hN (xCall c__law_take tk (hr.mono (by omega)) (aCons (xV 0) (aCons xI aNil)))) (ss_cons (ss_if (cEq hr (xV 3) xI) (ss_cons (sLet 4 [] hN (xCall c__law_pick tk (hr.mono (by omega)) (aCons (xV 0) (aCons (xNew (lLst (aCons (xTup aNil) (aCons (xTuple n_tuple (aCons (xNew (lLc 7 rfl hN (jR1 n_range (aCons (xV 2) aNil)) (fun _ _ _ _ _ => cNone) (fun _ _ _ _ _ => (xV 7)))) aNil)) aNil)))) aNil)))) (ss_one (sRet (xCall c__law_of tk (hr.mono (by omega)) (aCons (xNew (lLc 6 rfl hN (jR1 n_range (aCons (xV 1) aNil)) (fun _ _ _ _ _ => cNone) (fun _ _ _ _ _ => (xV 4)))) (aCons (xV 2) aNil)))))) ss_nil) (ss_cons (ss_if (cEq hr (xV 3) xI) (ss_cons (sLet 5 [] hN (xCall c__law_placing tk (hr.mono (by omega)) (aCons (xV 0) (aCons (xMax rfl n_max (aCons (xV 1) (aCons (xV 2) aNil))) aNil)))) (ss_one (sRet (xCall c__law_of tk (hr.mono (by omega)) (aCons (xNew (lLc 6 rfl hN (jR1 n_range (aCons (xV 1) aNil)) (fun _ _ _ _ _ => cNone) (fun _ _ _ _ _ => (xTuple n_tuple (aCons (xNew (lLc 7 rfl hN (jR1 n_range (aCons (xV 2) aNil)) (fun _ _ _ _ _ => (cOne (cEq hr (xV 7) (xIx (xV 5) (xV 6))))) (fun _ _ _ _ _ => (xV 7)))) aNil))))) (aCons (xV 2) aNil)))))) ss_nil) (ss_cons (ss_if (cEq hr (xV 3) xI) (ss_one (sRet (xCall c__law_twin tk (hr.mono (by omega)) (aCons (xV 0) (aCons (xV 1) (aCons (xV 2) aNil)))))) ss_nil) (ss_one (sRet (xCall c__law_free tk (hr.mono (by omega)) (aCons (xV 0) (aCons (xV 1) (aCons (xV 2) aNil))))))))))
def N__law_world : List Str := ["store", "most_high", "most_wide", "sizes", "wide", "kind", "lots", "placing", "i", "lot", "many", "k"]
theorem sc__law_world : FnScope N__law_world ["store", "most_high", "most_wide"] (defScope s__law_world) := ⟨rfl, rfl, rfl, by decide +kernel, rfl, by decide +kernel, by decide +kernel⟩
def den__law_world : List D → M D := runF 3 12 (gSeq (gAsg 3 [] (fL den__law_sizes (aC (gVar 0) (aC (gVar 1) (aC (gVar 2) aN))))) (gSeq (gAsg 4 [] (f2 dIx (gVar 3) (fC (.int 1)))) (gSeq (gAsg 5 [] (fL den__law_take (aC (gVar 0) (aC (fC (.int 6)) aN)))) (gSeq (gIf (t2 dEq (gVar 5) (fC (.int 0))) (gRet (fL den__law_turn (aC (fL den__law_twin (aC (gVar 0) (aC (gVar 4) (aC (f2 dIx (gVar 3) (fC (.int 0))) aN)))) aN))) (fun ρ => pure (.nx ρ))) (gSeq (gIf (t2 dGt (gVar 5) (fC (.int 2))) (gRet (fL den__law_some_grid (aC (gVar 0) (aC (f2 dIx (gVar 3) (fC (.int 0))) (aC (gVar 4) aN))))) (fun ρ => pure (.nx ρ))) (gSeq (gNew 6 [] (lDis aN)) (gSeq (gAsg 7 [] (fL den__law_placing (aC (gVar 0) (aC (gVar 4) aN)))) (gSeq (gFor (iRan 1 (aC (f2 dIx (gVar 3) (fC (.int 0))) aN)) (bName 8) (gSeq (gAsg 9 [] (fL den__law_join (aC (fNew (lDis (aC (fTup (aC (fL den__law_take (aC (gVar 0) (aC (gVar 4) aN))) aN)) (aC (fTup (aC (fL den__law_take (aC (gVar 0) (aC (gVar 4) aN))) aN)) aN)))) aN))) (gSeq (gIf (t2 dEq (gVar 5) (fC (.int 1))) (gSeq (gAsg 10 [] (fL den__law_take (aC (gVar 0) (aC (f2 dAdd (gVar 4) (fC (.int 1))) aN)))) (gAsg 9 [] (fL dTuple (aC (fNew (compV (eName 11) (iRan 1 (aC (gVar 4) aN)) (t2 dLt (f2 dIx (gVar 7) (gVar 11)) (gVar 10)) (gVar 11))) aN)))) (fun ρ => pure (.nx ρ))) (gApp 6 [] (gVar 9))))) (gRet (fL den__law_of (aC (gVar 6) (aC (gVar 4) aN))))))))))))
theorem ok__law_world {f : Addr} {fd : FuncData} (F : FunD K "_law_world" "_law_world" (defArgs s__law_world) (defBody s__law_world) (defScope s__law_world) [] [] f fd) (gf : mg "_law_world" = some (.ref f)) (c__law_join : Cal P w K mg base 1 "_law_join" (defArgs s__law_join) (defBody s__law_join) (defScope s__law_join) ["lots"] den__law_join) (c__law_of : Cal P w K mg base 1 "_law_of" (defArgs s__law_of) (defBody s__law_of) (defScope s__law_of) ["lots", "wide"] den__law_of) (c__law_placing : Cal P w K mg base 4 "_law_placing" (defArgs s__law_placing) (defBody s__law_placing) (defScope s__law_placing) ["store", "many"] den__law_placing) (c__law_sizes : Cal P w K mg base 4 "_law_sizes" (defArgs s__law_sizes) (defBody s__law_sizes) (defScope s__law_sizes) ["store", "most_high", "most_wide"] den__law_sizes) (c__law_some_grid : Cal P w K mg base 5 "_law_some_grid" (defArgs s__law_some_grid) (defBody s__law_some_grid) (defScope s__law_some_grid) ["store", "high", "wide"] den__law_some_grid) (c__law_take : Cal P w K mg base 2 "_law_take" (defArgs s__law_take) (defBody s__law_take) (defScope s__law_take) ["store", "many"] den__law_take) (c__law_turn : Cal P w K mg base 1 "_law_turn" (defArgs s__law_turn) (defBody s__law_turn) (defScope s__law_turn) ["grid"] den__law_turn) (c__law_twin : Cal P w K mg base 4 "_law_twin" (defArgs s__law_twin) (defBody s__law_twin) (defScope s__law_twin) ["store", "high", "wide"] den__law_twin) (n_range : mg "range" = none) (n_tuple : mg "tuple" = none) :
    Cal P w K mg base 6 "_law_world" (defArgs s__law_world) (defBody s__law_world) (defScope s__law_world) ["store", "most_high", "most_wide"] den__law_world := by
  refine ⟨f, fd, gf, F, F.bindsN fun _ _ _ _ _ _ us hl => match us, hl with | [_, _, _], _ => rfl, fn_den (N := N__law_world) F sc__law_world fun cdv A outer s H E hr => ?_⟩
  have hN : N__law_world.Nodup := sc__law_world.nd
  have hp : PassesOwn (model P w) _ _ _ := passes_of (X := cxOf (L2N.CX P w) P w K mg base N__law_world "_law_world" (defScope s__law_world) f cdv A outer s H E) rfl
  have tk : Den.Takes (cxOf (L2N.CX P w) P w K mg base N__law_world "_law_world" (defScope s__law_world) f cdv A outer s H E) (wE E) := L2N.takes_of rfl rfl rfl rfl
  exact (ss_cons (sLet 3 [] hN (xCall c__law_sizes tk (hr.mono (by omega)) (aCons (xV 0) (aCons (xV 1) (aCons (xV 2) aNil))))) (ss_cons (sLet 4 [] hN (xIx (xV 3) xI)) (ss_cons (sLet 5 [] hN (xCall c__law_take tk (hr.mono (by omega)) (aCons (xV 0) (aCons xI aNil)))) (ss_cons (ss_if (cEq hr (xV 5) xI) (ss_one (sRet (xCall c__law_turn tk (hr.mono (by omega)) (aCons (xCall c__law_twin tk (hr.mono (by omega)) (aCons (xV 0) (aCons (xV 4) (aCons (xIx (xV 3) xI) aNil)))) aNil)))) ss_nil) (ss_cons (ss_if (cGt (xV 5) xI) (ss_one (sRet (xCall c__law_some_grid tk (hr.mono (by omega)) (aCons (xV 0) (aCons (xIx (xV 3) xI) (aCons (xV 4) aNil)))))) ss_nil) (ss_cons (sOwn 6 [] hN (lLst aNil)) (ss_cons (sLet 7 [] hN (xCall c__law_placing tk (hr.mono (by omega)) (aCons (xV 0) (aCons (xV 4) aNil)))) (ss_cons (sFor 8 hN hp rfl (jR1 n_range (aCons (xIx (xV 3) xI) aNil)) (ss_cons (sLet 9 [] hN (xCall c__law_join tk (hr.mono (by omega)) (aCons (xNew (lLst (aCons (xTup (aCons (xCall c__law_take tk (hr.mono (by omega)) (aCons (xV 0) (aCons (xV 4) aNil))) aNil)) (aCons (xTup (aCons (xCall c__law_take tk (hr.mono (by omega)) (aCons (xV 0) (aCons (xV 4) aNil))) aNil)) aNil)))) aNil))) (ss_cons (ss_if (cEq hr (xV 5) xI) (ss_cons (sLet 10 [] hN (xCall c__law_take tk (hr.mono (by omega)) (aCons (xV 0) (aCons (xAdd (xV 4) xI) aNil)))) (ss_one (sLet 9 [] hN (xTuple n_tuple (aCons (xNew (lLc 11 rfl hN (jR1 n_range (aCons (xV 4) aNil)) (fun _ _ _ _ _ => (cOne (cLt (xIx (xV 7) (xV 11)) (xV 10)))) (fun _ _ _ _ _ => (xV 11)))) aNil))))) ss_nil) (ss_one (sApp 6 [] (xV 9)))))) (ss_one (sRet (xCall c__law_of tk (hr.mono (by omega)) (aCons (xV 6) (aCons (xV 4) aNil)))))))))))))
def N__is_short : List Str := ["value"]
theorem sc__is_short : FnScope N__is_short ["value"] (defScope s__is_short) := ⟨rfl, rfl, rfl, by decide +kernel, rfl, by decide +kernel, by decide +kernel⟩
def den__is_short : List D → M D := runF 1 1 (gRet (fAnd (gIsi none [.ty "list", .ty "tuple"] (gVar 0)) (f2 dLe (fL dLen (aC (gVar 0) aN)) (fC (.int 6)))))
theorem ok__is_short {f : Addr} {fd : FuncData} (F : FunD K "_is_short" "_is_short" (defArgs s__is_short) (defBody s__is_short) (defScope s__is_short) [] [] f fd) (gf : mg "_is_short" = some (.ref f)) (n_isinstance : mg "isinstance" = none) (n_len : mg "len" = none) (n_list : mg "list" = none) (n_tuple : mg "tuple" = none) (v_SIDE : ∃ t, mg "SIDE" = some (.int 6 t)) :
    Cal P w K mg base 1 "_is_short" (defArgs s__is_short) (defBody s__is_short) (defScope s__is_short) ["value"] den__is_short := by
  refine ⟨f, fd, gf, F, F.bindsN fun _ _ _ _ _ _ us hl => match us, hl with | [_], _ => rfl, fn_den (N := N__is_short) F sc__is_short fun cdv A outer s H E hr => ?_⟩
  have hN : N__is_short.Nodup := sc__is_short.nd
  have hp : PassesOwn (model P w) _ _ _ := passes_of (X := cxOf (L2N.CX P w) P w K mg base N__is_short "_is_short" (defScope s__is_short) f cdv A outer s H E) rfl
  have tk : Den.Takes (cxOf (L2N.CX P w) P w K mg base N__is_short "_is_short" (defScope s__is_short) f cdv A outer s H E) (wE E) := L2N.takes_of rfl rfl rfl rfl
  exact (ss_one (sRet (xAnd (xIsiT "list" "tuple" bt_list bt_tuple (by decide) (by decide) (by decide) (by decide) (by decide) (xV 0) n_isinstance n_list n_tuple) (xOne (xLe (xLen n_len (aCons (xV 0) aNil)) (xGI v_SIDE))))))
def N_is_number : List Str := ["value", "below"]
theorem sc_is_number : FnScope N_is_number ["value", "below"] (defScope s_is_number) := ⟨rfl, rfl, rfl, by decide +kernel, rfl, by decide +kernel, by decide +kernel⟩
def den_is_number : List D → M D := runF 2 2 (gRet (fAnd (gIsi none [.ty "int"] (gVar 0)) (fAnd (fNot (gIsi none [.ty "bool"] (gVar 0))) (fCh dLe dLt (fC (.int 0)) (gVar 0) (gVar 1)))))
theorem ok_is_number {f : Addr} {fd : FuncData} (F : FunD K "is_number" "is_number" (defArgs s_is_number) (defBody s_is_number) (defScope s_is_number) [] [] f fd) (gf : mg "is_number" = some (.ref f)) (n_bool : mg "bool" = none) (n_int : mg "int" = none) (n_isinstance : mg "isinstance" = none) :
    Cal P w K mg base 1 "is_number" (defArgs s_is_number) (defBody s_is_number) (defScope s_is_number) ["value", "below"] den_is_number := by
  refine ⟨f, fd, gf, F, F.bindsN fun _ _ _ _ _ _ us hl => match us, hl with | [_, _], _ => rfl, fn_den (N := N_is_number) F sc_is_number fun cdv A outer s H E hr => ?_⟩
  have hN : N_is_number.Nodup := sc_is_number.nd
  have hp : PassesOwn (model P w) _ _ _ := passes_of (X := cxOf (L2N.CX P w) P w K mg base N_is_number "is_number" (defScope s_is_number) f cdv A outer s H E) rfl
  have tk : Den.Takes (cxOf (L2N.CX P w) P w K mg base N_is_number "is_number" (defScope s_is_number) f cdv A outer s H E) (wE E) := L2N.takes_of rfl rfl rfl rfl
  exact (ss_one (sRet (xAnd (xIsi_int (xV 0) n_isinstance n_int) (xAnd (xNot (xIsi_bool (xV 0) n_isinstance n_bool)) (xOne (xCh dLe dLt op_le vr_le op_lt vr_lt xI (xV 0) (xV 1)))))))
def N__width_of : List Str := ["rows", "width"]
theorem sc__width_of : FnScope N__width_of ["rows", "width"] (defScope s__width_of) := ⟨rfl, rfl, rfl, by decide +kernel, rfl, by decide +kernel, by decide +kernel⟩
def den__width_of : List D → M D := runF 2 2 (gSeq (gIf (tNo (tT (fL den__is_short (aC (gVar 0) aN)))) (gRaise "BadTable" ["row"] (aC (fC .non) aN)) (fun ρ => pure (.nx ρ))) (gSeq (gIf (t2 dIsN (gVar 1) (fC .non)) (gRet (fIf (tAnd (tT (gVar 0)) (tT (fL den__is_short (aC (f2 dIx (gVar 0) (fC (.int 0))) aN)))) (fL dLen (aC (f2 dIx (gVar 0) (fC (.int 0))) aN)) (fC (.int 0)))) (fun ρ => pure (.nx ρ))) (gSeq (gIf (tNo (tT (fL den_is_number (aC (gVar 1) (aC (f2 dAdd (fC (.int 6)) (fC (.int 1))) aN))))) (gRaise "BadTable" ["row"] (aC (fC .non) aN)) (fun ρ => pure (.nx ρ))) (gRet (gVar 1)))))
theorem ok__width_of {f : Addr} {fd : FuncData} (F : FunD K "_width_of" "_width_of" (defArgs s__width_of) (defBody s__width_of) (defScope s__width_of) [] [] f fd) (gf : mg "_width_of" = some (.ref f)) (c__is_short : Cal P w K mg base 1 "_is_short" (defArgs s__is_short) (defBody s__is_short) (defScope s__is_short) ["value"] den__is_short) (c_is_number : Cal P w K mg base 1 "is_number" (defArgs s_is_number) (defBody s_is_number) (defScope s_is_number) ["value", "below"] den_is_number) (x_BadTable : Exn P w K mg base 1 "BadTable" ["row"] ["self", "row"]) (n_len : mg "len" = none) (v_SIDE : ∃ t, mg "SIDE" = some (.int 6 t)) :
    Cal P w K mg base 3 "_width_of" (defArgs s__width_of) (defBody s__width_of) (defScope s__width_of) ["rows", "width"] den__width_of := by
  refine ⟨f, fd, gf, F, F.bindsN fun _ _ _ _ _ _ us hl => match us, hl with | [_, _], _ => rfl, fn_den (N := N__width_of) F sc__width_of fun cdv A outer s H E hr => ?_⟩
  have hN : N__width_of.Nodup := sc__width_of.nd
  have hp : PassesOwn (model P w) _ _ _ := passes_of (X := cxOf (L2N.CX P w) P w K mg base N__width_of "_width_of" (defScope s__width_of) f cdv A outer s H E) rfl
  have tk : Den.Takes (cxOf (L2N.CX P w) P w K mg base N__width_of "_width_of" (defScope s__width_of) f cdv A outer s H E) (wE E) := L2N.takes_of rfl rfl rfl rfl
  exact (ss_cons (ss_if (cNot (cTru (xCall c__is_short tk (hr.mono (by omega)) (aCons (xV 0) aNil)))) (ss_one (sRaise x_BadTable tk rfl (hr.mono (by omega)) (aCons xN aNil))) ss_nil) (ss_cons (ss_if (cIs (xV 1) xN) (ss_one (sRet (xIf (cBo (cAnd (cTru (xV 0)) (cAnd1 (cTru (xCall c__is_short tk (hr.mono (by omega)) (aCons (xIx (xV 0) xI) aNil)))))) (xLen n_len (aCons (xIx (xV 0) xI) aNil)) xI))) ss_nil) (ss_cons (ss_if (cNot (cTru (xCall c_is_number tk (hr.mono (by omega)) (aCons (xV 1) (aCons (xAdd (xGI v_SIDE) xI) aNil))))) (ss_one (sRaise x_BadTable tk rfl (hr.mono (by omega)) (aCons xN aNil))) ss_nil) (ss_one (sRet (xV 1))))))
def N__is_row : List Str := ["value", "width", "cell"]
theorem sc__is_row : FnScope N__is_row ["value", "width"] (defScope s__is_row) := ⟨rfl, rfl, rfl, by decide +kernel, rfl, by decide +kernel, by decide +kernel⟩
def den__is_row : List D → M D := runF 2 3 (gRet (fAnd (fL den__is_short (aC (gVar 0) aN)) (fAnd (f2 dEq (fL dLen (aC (gVar 0) aN)) (gVar 1)) (fL dAll (aC (fNew (compV (eName 2) (iSeq (gVar 0)) tYes (gIsi none [.ty "bool"] (gVar 2)))) aN)))))
theorem ok__is_row {f : Addr} {fd : FuncData} (F : FunD K "_is_row" "_is_row" (defArgs s__is_row) (defBody s__is_row) (defScope s__is_row) [] [] f fd) (gf : mg "_is_row" = some (.ref f)) (c__is_short : Cal P w K mg base 1 "_is_short" (defArgs s__is_short) (defBody s__is_short) (defScope s__is_short) ["value"] den__is_short) (n_all : mg "all" = none) (n_bool : mg "bool" = none) (n_isinstance : mg "isinstance" = none) (n_len : mg "len" = none) :
    Cal P w K mg base 2 "_is_row" (defArgs s__is_row) (defBody s__is_row) (defScope s__is_row) ["value", "width"] den__is_row := by
  refine ⟨f, fd, gf, F, F.bindsN fun _ _ _ _ _ _ us hl => match us, hl with | [_, _], _ => rfl, fn_den (N := N__is_row) F sc__is_row fun cdv A outer s H E hr => ?_⟩
  have hN : N__is_row.Nodup := sc__is_row.nd
  have hp : PassesOwn (model P w) _ _ _ := passes_of (X := cxOf (L2N.CX P w) P w K mg base N__is_row "_is_row" (defScope s__is_row) f cdv A outer s H E) rfl
  have tk : Den.Takes (cxOf (L2N.CX P w) P w K mg base N__is_row "_is_row" (defScope s__is_row) f cdv A outer s H E) (wE E) := L2N.takes_of rfl rfl rfl rfl
  exact (ss_one (sRet (xAnd (xCall c__is_short tk (hr.mono (by omega)) (aCons (xV 0) aNil)) (xAnd (xEq hr (xLen n_len (aCons (xV 0) aNil)) (xV 1)) (xOne (xAll rfl n_all (aCons (xNew (lLc 2 rfl hN (jSeq (xV 0)) (fun _ _ _ _ _ => cNone) (fun _ _ _ _ _ => (xIsi_bool (xV 2) n_isinstance n_bool)))) aNil)))))))
def N_Table_init : List Str := ["self", "rows", "width", "needed", "number", "row"]
theorem sc_Table_init : FnScope N_Table_init ["self", "rows", "width"] (defScope s_Table_init) := ⟨rfl, rfl, rfl, by decide +kernel, rfl, by decide +kernel, by decide +kernel⟩
def deni_Table_init : List D → M (List (Str × D)) := runI "Table" 3 6 (gSeq (gAsg 3 [] (fL den__width_of (aC (gVar 1) (aC (gVar 2) aN)))) (gSeq (gFor (iG dEnum (aC (gVar 1) aN)) (bPair 4 5) (gIf (tNo (tT (fL den__is_row (aC (gVar 5) (aC (gVar 3) aN))))) (gRaise "BadTable" ["row"] (aC (gVar 4) aN)) (fun ρ => pure (.nx ρ)))) (gSeq (gFldSet 0 "Table" "_cells" (fL dTuple (aC (fNew (compV (eName 5) (iSeq (gVar 1)) tYes (fL dTuple (aC (gVar 5) aN)))) aN))) (gFldSet 0 "Table" "_width" (gVar 3)))))
theorem ok_Table_init {f : Addr} {fd : FuncData} (F : FunD K "__init__" "Table.__init__" (defArgs s_Table_init) (defBody s_Table_init) (defScope s_Table_init) [] [("width", .non)] f fd) (c__is_row : Cal P w K mg base 2 "_is_row" (defArgs s__is_row) (defBody s__is_row) (defScope s__is_row) ["value", "width"] den__is_row) (c__width_of : Cal P w K mg base 3 "_width_of" (defArgs s__width_of) (defBody s__width_of) (defScope s__width_of) ["rows", "width"] den__width_of) (fl_Table__cells : Fld K "Table" "_cells") (fl_Table__width : Fld K "Table" "_width") (x_BadTable : Exn P w K mg base 1 "BadTable" ["row"] ["self", "row"]) (n_enumerate : mg "enumerate" = none) (n_tuple : mg "tuple" = none) :
    FnOk P w K mg base (L2N.CX P w) 4 f fd ["self", "rows", "width"] (spIni K "Table" deni_Table_init) := by
  refine fn_ini (N := N_Table_init) F sc_Table_init fun cdv A outer s H E hr => ?_
  have hN : N_Table_init.Nodup := sc_Table_init.nd
  have hp : PassesOwn (model P w) _ _ _ := passes_of (X := cxOf (L2N.CX P w) P w K mg base N_Table_init "Table.__init__" (defScope s_Table_init) f cdv A outer s H E) rfl
  have tk : Den.Takes (cxOf (L2N.CX P w) P w K mg base N_Table_init "Table.__init__" (defScope s_Table_init) f cdv A outer s H E) (wE E) := L2N.takes_of rfl rfl rfl rfl
  exact (ss_cons (sLet 3 [] hN (xCall c__width_of tk (hr.mono (by omega)) (aCons (xV 1) (aCons (xV 2) aNil)))) (ss_cons (sForP 4 5 hN hp rfl (jEn n_enumerate (aCons (xV 1) aNil)) (ss_one (ss_if (cNot (cTru (xCall c__is_row tk (hr.mono (by omega)) (aCons (xV 5) (aCons (xV 3) aNil))))) (ss_one (sRaise x_BadTable tk rfl (hr.mono (by omega)) (aCons (xV 4) aNil))) ss_nil))) (ss_cons (sFldS 0 fl_Table__cells (xTuple n_tuple (aCons (xNew (lLc 5 rfl hN (jSeq (xV 1)) (fun _ _ _ _ _ => cNone) (fun _ _ _ _ _ => (xTuple n_tuple (aCons (xV 5) aNil))))) aNil))) (ss_one (sFldS 0 fl_Table__width (xV 3))))))
def N__law_table : List Str := ["grid", "row", "cell"]
theorem sc__law_table : FnScope N__law_table ["grid"] (defScope s__law_table) := ⟨rfl, rfl, rfl, by decide +kernel, rfl, by decide +kernel, by decide +kernel⟩
def den__law_table : List D → M D := runF 1 3 (gRet (gCallK (fun ds => noErr (do let fs ← deni_Table_init ds; pure (.obj "Table" fs))) (aC (fNew (compV (eName 1) (iSeq (f2 dIx (gVar 0) (fC (.int 3)))) tYes (fNew (compV (eName 2) (iSeq (gVar 1)) tYes (gVar 2))))) aN) (aC (f2 dIx (gVar 0) (fC (.int 2))) aN) 1 1 [0, 1] []))
theorem ok__law_table {f : Addr} {fd : FuncData} (F : FunD K "_law_table" "_law_table" (defArgs s__law_table) (defBody s__law_table) (defScope s__law_table) [] [] f fd) (gf : mg "_law_table" = some (.ref f)) (mk_Table : Mkr P w K mg base 4 "Table" "Table.__init__" (defArgs s_Table_init) (defBody s_Table_init) (defScope s_Table_init) [("width", .non)] ["self", "rows", "width"] deni_Table_init) :
    Cal P w K mg base 6 "_law_table" (defArgs s__law_table) (defBody s__law_table) (defScope s__law_table) ["grid"] den__law_table := by
  refine ⟨f, fd, gf, F, F.bindsN fun _ _ _ _ _ _ us hl => match us, hl with | [_], _ => rfl, fn_den (N := N__law_table) F sc__law_table fun cdv A outer s H E hr => ?_⟩
  have hN : N__law_table.Nodup := sc__law_table.nd
  have hp : PassesOwn (model P w) _ _ _ := passes_of (X := cxOf (L2N.CX P w) P w K mg base N__law_table "_law_table" (defScope s__law_table) f cdv A outer s H E) rfl
  have tk : Den.Takes (cxOf (L2N.CX P w) P w K mg base N__law_table "_law_table" (defScope s__law_table) f cdv A outer s H E) (wE E) := L2N.takes_of rfl rfl rfl rfl
  exact (ss_one (sRet (xMake mk_Table 1 ["width"] [0, 1] [] [] (by decide) (by simp) .nil (by exact fun _ _ _ _ _ _ us mv ws h1 h2 h3 => match us, mv, ws, h1, h2, h3 with | [_, _], [], [_], _, _, _ => rfl) (hr.mono (by omega)) (aCons (xNew (lLc 1 rfl hN (jSeq (xIx (xV 0) xI)) (fun _ _ _ _ _ => cNone) (fun _ _ _ _ _ => (xNew (lLc 2 rfl hN (jSeq (xV 1)) (fun _ _ _ _ _ => cNone) (fun _ _ _ _ _ => (xV 2))))))) aNil) (kCons (xIx (xV 0) xI) kNil))))
def N__law_lots : List Str := ["grid", "out", "row", "k"]
theorem sc__law_lots : FnScope N__law_lots ["grid"] (defScope s__law_lots) := ⟨rfl, rfl, rfl, by decide +kernel, rfl, by decide +kernel, by decide +kernel⟩
def den__law_lots : List D → M D := runF 1 4 (gSeq (gNew 1 [] (lDis aN)) (gSeq (gFor (iSeq (f2 dIx (gVar 0) (fC (.int 3)))) (bName 2) (gApp 1 [] (fL dTuple (aC (fNew (compV (eName 3) (iRan 1 (aC (f2 dIx (gVar 0) (fC (.int 2))) aN)) (tT (f2 dIx (gVar 2) (gVar 3))) (gVar 3))) aN)))) (gRet (gVar 1))))
theorem ok__law_lots {f : Addr} {fd : FuncData} (F : FunD K "_law_lots" "_law_lots" (defArgs s__law_lots) (defBody s__law_lots) (defScope s__law_lots) [] [] f fd) (gf : mg "_law_lots" = some (.ref f)) (n_range : mg "range" = none) (n_tuple : mg "tuple" = none) :
    Cal P w K mg base 1 "_law_lots" (defArgs s__law_lots) (defBody s__law_lots) (defScope s__law_lots) ["grid"] den__law_lots := by
  refine ⟨f, fd, gf, F, F.bindsN fun _ _ _ _ _ _ us hl => match us, hl with | [_], _ => rfl, fn_den (N := N__law_lots) F sc__law_lots fun cdv A outer s H E hr => ?_⟩
  have hN : N__law_lots.Nodup := sc__law_lots.nd
  have hp : PassesOwn (model P w) _ _ _ := passes_of (X := cxOf (L2N.CX P w) P w K mg base N__law_lots "_law_lots" (defScope s__law_lots) f cdv A outer s H E) rfl
  have tk : Den.Takes (cxOf (L2N.CX P w) P w K mg base N__law_lots "_law_lots" (defScope s__law_lots) f cdv A outer s H E) (wE E) := L2N.takes_of rfl rfl rfl rfl
  exact (ss_cons (sOwn 1 [] hN (lLst aNil)) (ss_cons (sFor 2 hN hp rfl (jSeq (xIx (xV 0) xI)) (ss_one (sApp 1 [] (xTuple n_tuple (aCons (xNew (lLc 3 rfl hN (jR1 n_range (aCons (xIx (xV 0) xI) aNil)) (fun _ _ _ _ _ => (cOne (cTru (xIx (xV 2) (xV 3))))) (fun _ _ _ _ _ => (xV 3)))) aNil))))) (ss_one (sRet (xV 1)))))
def N__law_ranked : List Str := ["lots", "out", "pair", "lot"]
theorem sc__law_ranked : FnScope N__law_ranked ["lots"] (defScope s__law_ranked) := ⟨rfl, rfl, rfl, by decide +kernel, rfl, by decide +kernel, by decide +kernel⟩
def den__law_ranked : List D → M D := runF 1 4 (gSeq (gNew 1 [] (lDis aN)) (gSeq (gFor (iSeq (fNew (lG dSorted (aC (fNew (compV (eName 3) (iSeq (gVar 0)) tYes (fTup (aC (fL dLen (aC (gVar 3) aN)) (aC (gVar 3) aN))))) aN)))) (bName 2) (gIf (tOr (t2 dEq (fL dLen (aC (gVar 1) aN)) (fC (.int 0))) (t2 dNe (f2 dIx (gVar 1) (f1 dNeg (fC (.int 1)))) (f2 dIx (gVar 2) (fC (.int 1))))) (gApp 1 [] (f2 dIx (gVar 2) (fC (.int 1)))) (fun ρ => pure (.nx ρ)))) (gRet (gVar 1))))
theorem ok__law_ranked {f : Addr} {fd : FuncData} (F : FunD K "_law_ranked" "_law_ranked" (defArgs s__law_ranked) (defBody s__law_ranked) (defScope s__law_ranked) [] [] f fd) (gf : mg "_law_ranked" = some (.ref f)) (n_len : mg "len" = none) (n_sorted : mg "sorted" = none) :
    Cal P w K mg base 1 "_law_ranked" (defArgs s__law_ranked) (defBody s__law_ranked) (defScope s__law_ranked) ["lots"] den__law_ranked := by
  refine ⟨f, fd, gf, F, F.bindsN fun _ _ _ _ _ _ us hl => match us, hl with | [_], _ => rfl, fn_den (N := N__law_ranked) F sc__law_ranked fun cdv A outer s H E hr => ?_⟩
  have hN : N__law_ranked.Nodup := sc__law_ranked.nd
  have hp : PassesOwn (model P w) _ _ _ := passes_of (X := cxOf (L2N.CX P w) P w K mg base N__law_ranked "_law_ranked" (defScope s__law_ranked) f cdv A outer s H E) rfl
  have tk : Den.Takes (cxOf (L2N.CX P w) P w K mg base N__law_ranked "_law_ranked" (defScope s__law_ranked) f cdv A outer s H E) (wE E) := L2N.takes_of rfl rfl rfl rfl
  exact (ss_cons (sOwn 1 [] hN (lLst aNil)) (ss_cons (sFor 2 hN hp rfl (jSeq (xNew (lSorted hr n_sorted (aCons (xNew (lLc 3 rfl hN (jSeq (xV 0)) (fun _ _ _ _ _ => cNone) (fun _ _ _ _ _ => (xTup (aCons (xLen n_len (aCons (xV 3) aNil)) (aCons (xV 3) aNil)))))) aNil)))) (ss_one (ss_if (cBo (cOr (cEq hr (xLen n_len (aCons (xV 1) aNil)) xI) (cOr1 (cNe hr (xIx (xV 1) (xNeg xI)) (xIx (xV 2) xI))))) (ss_one (sApp 1 [] (xIx (xV 2) xI))) ss_nil))) (ss_one (sRet (xV 1)))))
def N__law_joined : List Str := ["grid", "found", "lot", "one"]
theorem sc__law_joined : FnScope N__law_joined ["grid"] (defScope s__law_joined) := ⟨rfl, rfl, rfl, by decide +kernel, rfl, by decide +kernel, by decide +kernel⟩
def den__law_joined : List D → M D := runF 1 4 (gSeq (gAsg 1 [] (fNew (lDis (aC (fTup aN) aN)))) (gSeq (gFor (iSeq (fL den__law_lots (aC (gVar 0) aN))) (bName 2) (gAsg 1 [] (fL den__law_ranked (aC (f2 dAdd (gVar 1) (fNew (compV (eName 3) (iSeq (gVar 1)) tYes (fL den__law_join (aC (fNew (lDis (aC (gVar 3) (aC (gVar 2) aN)))) aN))))) aN)))) (gRet (gVar 1))))
theorem ok__law_joined {f : Addr} {fd : FuncData} (F : FunD K "_law_joined" "_law_joined" (defArgs s__law_joined) (defBody s__law_joined) (defScope s__law_joined) [] [] f fd) (gf : mg "_law_joined" = some (.ref f)) (c__law_join : Cal P w K mg base 1 "_law_join" (defArgs s__law_join) (defBody s__law_join) (defScope s__law_join) ["lots"] den__law_join) (c__law_lots : Cal P w K mg base 1 "_law_lots" (defArgs s__law_lots) (defBody s__law_lots) (defScope s__law_lots) ["grid"] den__law_lots) (c__law_ranked : Cal P w K mg base 1 "_law_ranked" (defArgs s__law_ranked) (defBody s__law_ranked) (defScope s__law_ranked) ["lots"] den__law_ranked) :
    Cal P w K mg base 2 "_law_joined" (defArgs s__law_joined) (defBody s__law_joined) (defScope s__law_joined) ["grid"] den__law_joined := by
  refine ⟨f, fd, gf, F, F.bindsN fun _ _ _ _ _ _ us hl => match us, hl with | [_], _ => rfl, fn_den (N := N__law_joined) F sc__law_joined fun cdv A outer s H E hr => ?_⟩
  have hN : N__law_joined.Nodup := sc__law_joined.nd
  have hp : PassesOwn (model P w) _ _ _ := passes_of (X := cxOf (L2N.CX P w) P w K mg base N__law_joined "_law_joined" (defScope s__law_joined) f cdv A outer s H E) rfl
  have tk : Den.Takes (cxOf (L2N.CX P w) P w K mg base N__law_joined "_law_joined" (defScope s__law_joined) f cdv A outer s H E) (wE E) := L2N.takes_of rfl rfl rfl rfl
  exact (ss_cons (sLet 1 [] hN (xNew (lLst (aCons (xTup aNil) aNil)))) (ss_cons (sFor 2 hN hp rfl (jSeq (xCall c__law_lots tk (hr.mono (by omega)) (aCons (xV 0) aNil))) (ss_one (sLet 1 [] hN (xCall c__law_ranked tk (hr.mono (by omega)) (aCons (xAdd (xV 1) (xNew (lLc 3 rfl hN (jSeq (xV 1)) (fun _ _ _ _ _ => cNone) (fun _ _ _ _ _ => (xCall c__law_join tk0 (hr.mono (by omega)) (aCons (xNew (lLst (aCons (xV 3) (aCons (xV 2) aNil)))) aNil)))))) aNil))))) (ss_one (sRet (xV 1)))))
def N__law_within : List Str := ["one", "other", "k"]
theorem sc__law_within : FnScope N__law_within ["one", "other"] (defScope s__law_within) := ⟨rfl, rfl, rfl, by decide +kernel, rfl, by decide +kernel, by decide +kernel⟩
def den__law_within : List D → M D := runF 2 3 (gRet (fL dAll (aC (fNew (compV (eName 2) (iSeq (gVar 0)) tYes (f2 dIn (gVar 2) (gVar 1)))) aN)))
theorem ok__law_within {f : Addr} {fd : FuncData} (F : FunD K "_law_within" "_law_within" (defArgs s__law_within) (defBody s__law_within) (defScope s__law_within) [] [] f fd) (gf : mg "_law_within" = some (.ref f)) (n_all : mg "all" = none) :
    Cal P w K mg base 1 "_law_within" (defArgs s__law_within) (defBody s__law_within) (defScope s__law_within) ["one", "other"] den__law_within := by
  refine ⟨f, fd, gf, F, F.bindsN fun _ _ _ _ _ _ us hl => match us, hl with | [_, _], _ => rfl, fn_den (N := N__law_within) F sc__law_within fun cdv A outer s H E hr => ?_⟩
  have hN : N__law_within.Nodup := sc__law_within.nd
  have hp : PassesOwn (model P w) _ _ _ := passes_of (X := cxOf (L2N.CX P w) P w K mg base N__law_within "_law_within" (defScope s__law_within) f cdv A outer s H E) rfl
  have tk : Den.Takes (cxOf (L2N.CX P w) P w K mg base N__law_within "_law_within" (defScope s__law_within) f cdv A outer s H E) (wE E) := L2N.takes_of rfl rfl rfl rfl
  exact (ss_one (sRet (xAll rfl n_all (aCons (xNew (lLc 2 rfl hN (jSeq (xV 0)) (fun _ _ _ _ _ => cNone) (fun _ _ _ _ _ => (xIn (xV 2) (xV 1))))) aNil))))
def N__law_unmade_joins : List Str := ["grid", "joined", "out", "k", "beneath", "one"]
theorem sc__law_unmade_joins : FnScope N__law_unmade_joins ["grid"] (defScope s__law_unmade_joins) := ⟨rfl, rfl, rfl, by decide +kernel, rfl, by decide +kernel, by decide +kernel⟩
def den__law_unmade_joins : List D → M D := runF 1 6 (gSeq (gAsg 1 [] (fL den__law_joined (aC (gVar 0) aN))) (gSeq (gNew 2 [] (lDis aN)) (gSeq (gFor (iRan 1 (aC (fL dLen (aC (gVar 1) aN)) aN)) (bName 3) (gSeq (gAsg 4 [] (fNew (compV (eName 5) (iSeq (fNew (gSlice (gVar 1) oNo (oYes (gVar 3))))) (tT (fL den__law_within (aC (gVar 5) (aC (f2 dIx (gVar 1) (gVar 3)) aN)))) (gVar 5)))) (gIf (t2 dNe (fL den__law_join (aC (gVar 4) aN)) (f2 dIx (gVar 1) (gVar 3))) (gApp 2 [] (f2 dIx (gVar 1) (gVar 3))) (fun ρ => pure (.nx ρ))))) (gRet (gVar 2)))))
theorem ok__law_unmade_joins {f : Addr} {fd : FuncData} (F : FunD K "_law_unmade_joins" "_law_unmade_joins" (defArgs s__law_unmade_joins) (defBody s__law_unmade_joins) (defScope s__law_unmade_joins) [] [] f fd) (gf : mg "_law_unmade_joins" = some (.ref f)) (c__law_join : Cal P w K mg base 1 "_law_join" (defArgs s__law_join) (defBody s__law_join) (defScope s__law_join) ["lots"] den__law_join) (c__law_joined : Cal P w K mg base 2 "_law_joined" (defArgs s__law_joined) (defBody s__law_joined) (defScope s__law_joined) ["grid"] den__law_joined) (c__law_within : Cal P w K mg base 1 "_law_within" (defArgs s__law_within) (defBody s__law_within) (defScope s__law_within) ["one", "other"] den__law_within) (n_len : mg "len" = none) (n_range : mg "range" = none) :
    Cal P w K mg base 3 "_law_unmade_joins" (defArgs s__law_unmade_joins) (defBody s__law_unmade_joins) (defScope s__law_unmade_joins) ["grid"] den__law_unmade_joins := by
  refine ⟨f, fd, gf, F, F.bindsN fun _ _ _ _ _ _ us hl => match us, hl with | [_], _ => rfl, fn_den (N := N__law_unmade_joins) F sc__law_unmade_joins fun cdv A outer s H E hr => ?_⟩
  have hN : N__law_unmade_joins.Nodup := sc__law_unmade_joins.nd
  have hp : PassesOwn (model P w) _ _ _ := passes_of (X := cxOf (L2N.CX P w) P w K mg base N__law_unmade_joins "_law_unmade_joins" (defScope s__law_unmade_joins) f cdv A outer s H E) rfl
  have tk : Den.Takes (cxOf (L2N.CX P w) P w K mg base N__law_unmade_joins "_law_unmade_joins" (defScope s__law_unmade_joins) f cdv A outer s H E) (wE E) := L2N.takes_of rfl rfl rfl rfl
  exact (ss_cons (sLet 1 [] hN (xCall c__law_joined tk (hr.mono (by omega)) (aCons (xV 0) aNil))) (ss_cons (sOwn 2 [] hN (lLst aNil)) (ss_cons (sFor 3 hN hp rfl (jR1 n_range (aCons (xLen n_len (aCons (xV 1) aNil)) aNil)) (ss_cons (sLetLc [] (sLc (W := wE E) 4 5 [] rfl hN (jSeq (xNew (lSl (xV 1) oNone (oSome (xV 3))))) (fun _ _ _ _ _ => (cOne (cTru (xCall c__law_within tk0 (hr.mono (by omega)) (aCons (xV 5) (aCons (xIx (xV 1) (xV 3)) aNil)))))) (fun _ _ _ _ _ => (xV 5)))) (ss_one (ss_if (cNe hr (xCall c__law_join tk (hr.mono (by omega)) (aCons (xV 4) aNil)) (xIx (xV 1) (xV 3))) (ss_one (sApp 2 [] (xIx (xV 1) (xV 3)))) ss_nil)))) (ss_one (sRet (xV 2))))))
def N_check_number : List Str := ["value", "below"]
theorem sc_check_number : FnScope N_check_number ["value", "below"] (defScope s_check_number) := ⟨rfl, rfl, rfl, by decide +kernel, rfl, by decide +kernel, by decide +kernel⟩
def den_check_number : List D → M D := runF 2 2 (gIf (tNo (tT (fL den_is_number (aC (gVar 0) (aC (gVar 1) aN))))) (gRaise "BadPlace" ["place"] (aC (gVar 0) aN)) (fun ρ => pure (.nx ρ)))
theorem ok_check_number {f : Addr} {fd : FuncData} (F : FunD K "check_number" "check_number" (defArgs s_check_number) (defBody s_check_number) (defScope s_check_number) [] [] f fd) (gf : mg "check_number" = some (.ref f)) (c_is_number : Cal P w K mg base 1 "is_number" (defArgs s_is_number) (defBody s_is_number) (defScope s_is_number) ["value", "below"] den_is_number) (x_BadPlace : Exn P w K mg base 1 "BadPlace" ["place"] ["self", "place"]) :
    Cal P w K mg base 3 "check_number" (defArgs s_check_number) (defBody s_check_number) (defScope s_check_number) ["value", "below"] den_check_number := by
  refine ⟨f, fd, gf, F, F.bindsN fun _ _ _ _ _ _ us hl => match us, hl with | [_, _], _ => rfl, fn_den (N := N_check_number) F sc_check_number fun cdv A outer s H E hr => ?_⟩
  have hN : N_check_number.Nodup := sc_check_number.nd
  have hp : PassesOwn (model P w) _ _ _ := passes_of (X := cxOf (L2N.CX P w) P w K mg base N_check_number "check_number" (defScope s_check_number) f cdv A outer s H E) rfl
  have tk : Den.Takes (cxOf (L2N.CX P w) P w K mg base N_check_number "check_number" (defScope s_check_number) f cdv A outer s H E) (wE E) := L2N.takes_of rfl rfl rfl rfl
  exact (ss_one (ss_if (cNot (cTru (xCall c_is_number tk (hr.mono (by omega)) (aCons (xV 0) (aCons (xV 1) aNil))))) (ss_one (sRaise x_BadPlace tk rfl (hr.mono (by omega)) (aCons (xV 0) aNil))) ss_nil))
def N__is_ascending : List Str := ["values", "below", "least", "value"]
theorem sc__is_ascending : FnScope N__is_ascending ["values", "below"] (defScope s__is_ascending) := ⟨rfl, rfl, rfl, by decide +kernel, rfl, by decide +kernel, by decide +kernel⟩
def den__is_ascending : List D → M D := runF 2 4 (gSeq (gAsg 2 [] (fC (.int 0))) (gSeq (gFor (iSeq (gVar 0)) (bName 3) (gSeq (gIf (tOr (tNo (tT (fL den_is_number (aC (gVar 3) (aC (gVar 1) aN))))) (t2 dLt (gVar 3) (gVar 2))) (gRet (fC (.bl false))) (fun ρ => pure (.nx ρ))) (gAsg 2 [] (f2 dAdd (gVar 3) (fC (.int 1)))))) (gRet (fC (.bl true)))))
theorem ok__is_ascending {f : Addr} {fd : FuncData} (F : FunD K "_is_ascending" "_is_ascending" (defArgs s__is_ascending) (defBody s__is_ascending) (defScope s__is_ascending) [] [] f fd) (gf : mg "_is_ascending" = some (.ref f)) (c_is_number : Cal P w K mg base 1 "is_number" (defArgs s_is_number) (defBody s_is_number) (defScope s_is_number) ["value", "below"] den_is_number) :
    Cal P w K mg base 2 "_is_ascending" (defArgs s__is_ascending) (defBody s__is_ascending) (defScope s__is_ascending) ["values", "below"] den__is_ascending := by
  refine ⟨f, fd, gf, F, F.bindsN fun _ _ _ _ _ _ us hl => match us, hl with | [_, _], _ => rfl, fn_den (N := N__is_ascending) F sc__is_ascending fun cdv A outer s H E hr => ?_⟩
  have hN : N__is_ascending.Nodup := sc__is_ascending.nd
  have hp : PassesOwn (model P w) _ _ _ := passes_of (X := cxOf (L2N.CX P w) P w K mg base N__is_ascending "_is_ascending" (defScope s__is_ascending) f cdv A outer s H E) rfl
  have tk : Den.Takes (cxOf (L2N.CX P w) P w K mg base N__is_ascending "_is_ascending" (defScope s__is_ascending) f cdv A outer s H E) (wE E) := L2N.takes_of rfl rfl rfl rfl
  exact (ss_cons (sLet 2 [] hN xI) (ss_cons (sFor 3 hN hp rfl (jSeq (xV 0)) (ss_cons (ss_if (cBo (cOr (cNot (cTru (xCall c_is_number tk (hr.mono (by omega)) (aCons (xV 3) (aCons (xV 1) aNil))))) (cOr1 (cLt (xV 3) (xV 2))))) (ss_one (sRet xB)) ss_nil) (ss_one (sLet 2 [] hN (xAdd (xV 3) xI))))) (ss_one (sRet xB))))
def N_is_lot : List Str := ["value", "below"]
theorem sc_is_lot : FnScope N_is_lot ["value", "below"] (defScope s_is_lot) := ⟨rfl, rfl, rfl, by decide +kernel, rfl, by decide +kernel, by decide +kernel⟩
def den_is_lot : List D → M D := runF 2 2 (gSeq (gExp (fL den_check_number (aC (gVar 1) (aC (f2 dAdd (fC (.int 6)) (fC (.int 1))) aN)))) (gRet (fAnd (gIsi none [.ty "tuple"] (gVar 0)) (fL den__is_ascending (aC (gVar 0) (aC (gVar 1) aN))))))
theorem ok_is_lot {f : Addr} {fd : FuncData} (F : FunD K "is_lot" "is_lot" (defArgs s_is_lot) (defBody s_is_lot) (defScope s_is_lot) [.int 6] [] f fd) (gf : mg "is_lot" = some (.ref f)) (c__is_ascending : Cal P w K mg base 2 "_is_ascending" (defArgs s__is_ascending) (defBody s__is_ascending) (defScope s__is_ascending) ["values", "below"] den__is_ascending) (c_check_number : Cal P w K mg base 3 "check_number" (defArgs s_check_number) (defBody s_check_number) (defScope s_check_number) ["value", "below"] den_check_number) (n_isinstance : mg "isinstance" = none) (n_tuple : mg "tuple" = none) (v_SIDE : ∃ t, mg "SIDE" = some (.int 6 t)) :
    CalD P w K mg base 4 "is_lot" (defArgs s_is_lot) (defBody s_is_lot) (defScope s_is_lot) ["value", "below"] den_is_lot [.int 6] := by
  refine ⟨f, fd, gf, F, bindsD F (by simp) fun _ _ _ _ _ _ _ us its h1 h2 => match us, its, h1, h2 with | [_, _], [_], _, _ => ⟨_, rfl, rfl⟩, fn_den (N := N_is_lot) F sc_is_lot fun cdv A outer s H E hr => ?_⟩
  have hN : N_is_lot.Nodup := sc_is_lot.nd
  have hp : PassesOwn (model P w) _ _ _ := passes_of (X := cxOf (L2N.CX P w) P w K mg base N_is_lot "is_lot" (defScope s_is_lot) f cdv A outer s H E) rfl
  have tk : Den.Takes (cxOf (L2N.CX P w) P w K mg base N_is_lot "is_lot" (defScope s_is_lot) f cdv A outer s H E) (wE E) := L2N.takes_of rfl rfl rfl rfl
  exact (ss_cons (sExp (xCall c_check_number tk (hr.mono (by omega)) (aCons (xV 1) (aCons (xAdd (xGI v_SIDE) xI) aNil)))) (ss_one (sRet (xAnd (xIsi_tuple (xV 0) n_isinstance n_tuple) (xOne (xCall c__is_ascending tk (hr.mono (by omega)) (aCons (xV 0) (aCons (xV 1) aNil))))))))
def N_check_lot : List Str := ["lot", "below"]
theorem sc_check_lot : FnScope N_check_lot ["lot", "below"] (defScope s_check_lot) := ⟨rfl, rfl, rfl, by decide +kernel, rfl, by decide +kernel, by decide +kernel⟩
def den_check_lot : List D → M D := runF 2 2 (gIf (tNo (tT (fL den_is_lot (aC (gVar 0) (aC (gVar 1) aN))))) (gRaise "BadLot" ["lot"] (aC (gVar 0) aN)) (fun ρ => pure (.nx ρ)))
theorem ok_check_lot {f : Addr} {fd : FuncData} (F : FunD K "check_lot" "check_lot" (defArgs s_check_lot) (defBody s_check_lot) (defScope s_check_lot) [] [] f fd) (gf : mg "check_lot" = some (.ref f)) (c_is_lot : CalD P w K mg base 4 "is_lot" (defArgs s_is_lot) (defBody s_is_lot) (defScope s_is_lot) ["value", "below"] den_is_lot [.int 6]) (x_BadLot : Exn P w K mg base 1 "BadLot" ["lot"] ["self", "lot"]) :
    Cal P w K mg base 5 "check_lot" (defArgs s_check_lot) (defBody s_check_lot) (defScope s_check_lot) ["lot", "below"] den_check_lot := by
  refine ⟨f, fd, gf, F, F.bindsN fun _ _ _ _ _ _ us hl => match us, hl with | [_, _], _ => rfl, fn_den (N := N_check_lot) F sc_check_lot fun cdv A outer s H E hr => ?_⟩
  have hN : N_check_lot.Nodup := sc_check_lot.nd
  have hp : PassesOwn (model P w) _ _ _ := passes_of (X := cxOf (L2N.CX P w) P w K mg base N_check_lot "check_lot" (defScope s_check_lot) f cdv A outer s H E) rfl
  have tk : Den.Takes (cxOf (L2N.CX P w) P w K mg base N_check_lot "check_lot" (defScope s_check_lot) f cdv A outer s H E) (wE E) := L2N.takes_of rfl rfl rfl rfl
  exact (ss_one (ss_if (cNot (cTru (xCallD c_is_lot tk (hr.mono (by omega)) (aCons (xV 0) (aCons (xV 1) aNil))))) (ss_one (sRaise x_BadLot tk rfl (hr.mono (by omega)) (aCons (xV 0) aNil))) ss_nil))
def N__check_lots : List Str := ["lots", "lot"]
theorem sc__check_lots : FnScope N__check_lots ["lots"] (defScope s__check_lots) := ⟨rfl, rfl, rfl, by decide +kernel, rfl, by decide +kernel, by decide +kernel⟩
def den__check_lots : List D → M D := runF 1 2 (gFor (iSeq (gVar 0)) (bName 1) (gExp (fL den_check_lot (aC (gVar 1) (aC (fC (.int 6)) aN)))))
theorem ok__check_lots {f : Addr} {fd : FuncData} (F : FunD K "_check_lots" "_check_lots" (defArgs s__check_lots) (defBody s__check_lots) (defScope s__check_lots) [] [] f fd) (gf : mg "_check_lots" = some (.ref f)) (c_check_lot : Cal P w K mg base 5 "check_lot" (defArgs s_check_lot) (defBody s_check_lot) (defScope s_check_lot) ["lot", "below"] den_check_lot) (v_SIDE : ∃ t, mg "SIDE" = some (.int 6 t)) :
    Cal P w K mg base 6 "_check_lots" (defArgs s__check_lots) (defBody s__check_lots) (defScope s__check_lots) ["lots"] den__check_lots := by
  refine ⟨f, fd, gf, F, F.bindsN fun _ _ _ _ _ _ us hl => match us, hl with | [_], _ => rfl, fn_den (N := N__check_lots) F sc__check_lots fun cdv A outer s H E hr => ?_⟩
  have hN : N__check_lots.Nodup := sc__check_lots.nd
  have hp : PassesOwn (model P w) _ _ _ := passes_of (X := cxOf (L2N.CX P w) P w K mg base N__check_lots "_check_lots" (defScope s__check_lots) f cdv A outer s H E) rfl
  have tk : Den.Takes (cxOf (L2N.CX P w) P w K mg base N__check_lots "_check_lots" (defScope s__check_lots) f cdv A outer s H E) (wE E) := L2N.takes_of rfl rfl rfl rfl
  exact (ss_one (sFor 1 hN hp rfl (jSeq (xV 0)) (ss_one (sExp (xCall c_check_lot tk (hr.mono (by omega)) (aCons (xV 1) (aCons (xGI v_SIDE) aNil)))))))
def N_sorted_lots : List Str := ["lots"]
theorem sc_sorted_lots : FnScope N_sorted_lots ["lots"] (defScope s_sorted_lots) := ⟨rfl, rfl, rfl, by decide +kernel, rfl, by decide +kernel, by decide +kernel⟩
def den_sorted_lots : List D → M D := runF 1 1 (gSeq (gExp (fL den__check_lots (aC (gVar 0) aN))) (gRet (fNew (lG dSortLots (aC (gVar 0) aN)))))
theorem ok_sorted_lots {f : Addr} {fd : FuncData} (F : FunD K "sorted_lots" "sorted_lots" (defArgs s_sorted_lots) (defBody s_sorted_lots) (defScope s_sorted_lots) [] [] f fd) (gf : mg "sorted_lots" = some (.ref f)) (c__check_lots : Cal P w K mg base 6 "_check_lots" (defArgs s__check_lots) (defBody s__check_lots) (defScope s__check_lots) ["lots"] den__check_lots) (n_len : mg "len" = none) (n_set : mg "set" = none) (n_sorted : mg "sorted" = none) :
    Cal P w K mg base 7 "sorted_lots" (defArgs s_sorted_lots) (defBody s_sorted_lots) (defScope s_sorted_lots) ["lots"] den_sorted_lots := by
  refine ⟨f, fd, gf, F, F.bindsN fun _ _ _ _ _ _ us hl => match us, hl with | [_], _ => rfl, fn_den (N := N_sorted_lots) F sc_sorted_lots fun cdv A outer s H E hr => ?_⟩
  have hN : N_sorted_lots.Nodup := sc_sorted_lots.nd
  have hp : PassesOwn (model P w) _ _ _ := passes_of (X := cxOf (L2N.CX P w) P w K mg base N_sorted_lots "sorted_lots" (defScope s_sorted_lots) f cdv A outer s H E) rfl
  have tk : Den.Takes (cxOf (L2N.CX P w) P w K mg base N_sorted_lots "sorted_lots" (defScope s_sorted_lots) f cdv A outer s H E) (wE E) := L2N.takes_of rfl rfl rfl rfl
  exact (ss_cons (sExp (xCall c__check_lots tk (hr.mono (by omega)) (aCons (xV 0) aNil))) (ss_one (sRet (xNew (lSortLots hr n_sorted n_set n_len rfl (aCons (xV 0) aNil))))))
def N__lot_of_cells : List Str := ["cells", "number", "cell"]
theorem sc__lot_of_cells : FnScope N__lot_of_cells ["cells"] (defScope s__lot_of_cells) := ⟨rfl, rfl, rfl, by decide +kernel, rfl, by decide +kernel, by decide +kernel⟩
def den__lot_of_cells : List D → M D := runF 1 3 (gRet (fL dTuple (aC (fNew (compV (ePair 1 2) (iG dEnumT (aC (gVar 0) aN)) (tT (gVar 2)) (gVar 1))) aN)))
theorem ok__lot_of_cells {f : Addr} {fd : FuncData} (F : FunD K "_lot_of_cells" "_lot_of_cells" (defArgs s__lot_of_cells) (defBody s__lot_of_cells) (defScope s__lot_of_cells) [] [] f fd) (gf : mg "_lot_of_cells" = some (.ref f)) (n_enumerate : mg "enumerate" = none) (n_tuple : mg "tuple" = none) :
    Cal P w K mg base 1 "_lot_of_cells" (defArgs s__lot_of_cells) (defBody s__lot_of_cells) (defScope s__lot_of_cells) ["cells"] den__lot_of_cells := by
  refine ⟨f, fd, gf, F, F.bindsN fun _ _ _ _ _ _ us hl => match us, hl with | [_], _ => rfl, fn_den (N := N__lot_of_cells) F sc__lot_of_cells fun cdv A outer s H E hr => ?_⟩
  have hN : N__lot_of_cells.Nodup := sc__lot_of_cells.nd
  have hp : PassesOwn (model P w) _ _ _ := passes_of (X := cxOf (L2N.CX P w) P w K mg base N__lot_of_cells "_lot_of_cells" (defScope s__lot_of_cells) f cdv A outer s H E) rfl
  have tk : Den.Takes (cxOf (L2N.CX P w) P w K mg base N__lot_of_cells "_lot_of_cells" (defScope s__lot_of_cells) f cdv A outer s H E) (wE E) := L2N.takes_of rfl rfl rfl rfl
  exact (ss_one (sRet (xTuple n_tuple (aCons (xNew (lLcP 1 2 (by decide) rfl hN (jEnT n_enumerate (aCons (xV 0) aNil)) (fun _ _ _ _ _ => (cOne (cTru (xV 2)))) (fun _ _ _ _ _ => (xV 1)))) aNil))))
def N_Table_row_lots : List Str := ["self", "row"]
theorem sc_Table_row_lots : FnScope N_Table_row_lots ["self"] (defScope s_Table_row_lots) := ⟨rfl, rfl, rfl, by decide +kernel, rfl, by decide +kernel, by decide +kernel⟩
def den_Table_row_lots : List D → M D := runF 1 2 (gRet (fNew (compV (eName 1) (iSeq (gFld "Table" "_cells" (gVar 0))) tYes (fL den__lot_of_cells (aC (gVar 1) aN)))))
theorem ok_Table_row_lots {f : Addr} {fd : FuncData} (F : FunD K "row_lots" "Table.row_lots" (defArgs s_Table_row_lots) (defBody s_Table_row_lots) (defScope s_Table_row_lots) [] [] f fd) (c__lot_of_cells : Cal P w K mg base 1 "_lot_of_cells" (defArgs s__lot_of_cells) (defBody s__lot_of_cells) (defScope s__lot_of_cells) ["cells"] den__lot_of_cells) (fl_Table__cells : Fld K "Table" "_cells") :
    Binds K fd ["self"] [] ∧ FnOk P w K mg base (L2N.CX P w) 2 f fd ["self"] (spOf K den_Table_row_lots) := by
  refine ⟨F.bindsN fun _ _ _ _ _ _ us hl => match us, hl with | [_], _ => rfl, fn_den (N := N_Table_row_lots) F sc_Table_row_lots fun cdv A outer s H E hr => ?_⟩
  have hN : N_Table_row_lots.Nodup := sc_Table_row_lots.nd
  have hp : PassesOwn (model P w) _ _ _ := passes_of (X := cxOf (L2N.CX P w) P w K mg base N_Table_row_lots "Table.row_lots" (defScope s_Table_row_lots) f cdv A outer s H E) rfl
  have tk : Den.Takes (cxOf (L2N.CX P w) P w K mg base N_Table_row_lots "Table.row_lots" (defScope s_Table_row_lots) f cdv A outer s H E) (wE E) := L2N.takes_of rfl rfl rfl rfl
  exact (ss_one (sRet (xNew (lLc 1 rfl hN (jSeq (xFld fl_Table__cells (xV 0))) (fun _ _ _ _ _ => cNone) (fun _ _ _ _ _ => (xCall c__lot_of_cells tk0 (hr.mono (by omega)) (aCons (xV 1) aNil)))))))
def N_lot_of : List Str := ["numbers", "below", "number"]
theorem sc_lot_of : FnScope N_lot_of ["numbers", "below"] (defScope s_lot_of) := ⟨rfl, rfl, rfl, by decide +kernel, rfl, by decide +kernel, by decide +kernel⟩
def den_lot_of : List D → M D := runF 2 3 (gSeq (gExp (fL den_check_number (aC (gVar 1) (aC (f2 dAdd (fC (.int 6)) (fC (.int 1))) aN)))) (gSeq (gIf (tNo (tT (gIsi none [.ty "list", .ty "tuple"] (gVar 0)))) (gRaise "BadLot" ["lot"] (aC (gVar 0) aN)) (fun ρ => pure (.nx ρ))) (gSeq (gIf (tNo (tT (fL dAll (aC (fNew (compV (eName 2) (iSeq (gVar 0)) tYes (fL den_is_number (aC (gVar 2) (aC (gVar 1) aN))))) aN)))) (gRaise "BadLot" ["lot"] (aC (gVar 0) aN)) (fun ρ => pure (.nx ρ))) (gRet (fL dTuple (aC (fNew (lG dSortSet (aC (gVar 0) aN))) aN))))))
theorem ok_lot_of {f : Addr} {fd : FuncData} (F : FunD K "lot_of" "lot_of" (defArgs s_lot_of) (defBody s_lot_of) (defScope s_lot_of) [] [("below", .int (6))] f fd) (gf : mg "lot_of" = some (.ref f)) (c_check_number : Cal P w K mg base 3 "check_number" (defArgs s_check_number) (defBody s_check_number) (defScope s_check_number) ["value", "below"] den_check_number) (c_is_number : Cal P w K mg base 1 "is_number" (defArgs s_is_number) (defBody s_is_number) (defScope s_is_number) ["value", "below"] den_is_number) (x_BadLot : Exn P w K mg base 1 "BadLot" ["lot"] ["self", "lot"]) (n_all : mg "all" = none) (n_isinstance : mg "isinstance" = none) (n_list : mg "list" = none) (n_set : mg "set" = none) (n_sorted : mg "sorted" = none) (n_tuple : mg "tuple" = none) (v_SIDE : ∃ t, mg "SIDE" = some (.int 6 t)) :
    CalW P w K mg base 4 "lot_of" (defArgs s_lot_of) (defBody s_lot_of) (defScope s_lot_of) [("below", .int (6))] ["numbers", "below"] den_lot_of := by
  refine ⟨f, fd, gf, F, fn_den (N := N_lot_of) F sc_lot_of fun cdv A outer s H E hr => ?_⟩
  have hN : N_lot_of.Nodup := sc_lot_of.nd
  have hp : PassesOwn (model P w) _ _ _ := passes_of (X := cxOf (L2N.CX P w) P w K mg base N_lot_of "lot_of" (defScope s_lot_of) f cdv A outer s H E) rfl
  have tk : Den.Takes (cxOf (L2N.CX P w) P w K mg base N_lot_of "lot_of" (defScope s_lot_of) f cdv A outer s H E) (wE E) := L2N.takes_of rfl rfl rfl rfl
  exact (ss_cons (sExp (xCall c_check_number tk (hr.mono (by omega)) (aCons (xV 1) (aCons (xAdd (xGI v_SIDE) xI) aNil)))) (ss_cons (ss_if (cNot (cTru (xIsiT "list" "tuple" bt_list bt_tuple (by decide) (by decide) (by decide) (by decide) (by decide) (xV 0) n_isinstance n_list n_tuple))) (ss_one (sRaise x_BadLot tk rfl (hr.mono (by omega)) (aCons (xV 0) aNil))) ss_nil) (ss_cons (ss_if (cNot (cTru (xAll rfl n_all (aCons (xNew (lLc 2 rfl hN (jSeq (xV 0)) (fun _ _ _ _ _ => cNone) (fun _ _ _ _ _ => (xCall c_is_number tk0 (hr.mono (by omega)) (aCons (xV 2) (aCons (xV 1) aNil)))))) aNil)))) (ss_one (sRaise x_BadLot tk rfl (hr.mono (by omega)) (aCons (xV 0) aNil))) ss_nil) (ss_one (sRet (xTuple n_tuple (aCons (xNew (lSortSet hr n_sorted n_set rfl (aCons (xV 0) aNil))) aNil)))))))
def N_join_all : List Str := ["lots", "lot", "number"]
theorem sc_join_all : FnScope N_join_all ["lots"] (defScope s_join_all) := ⟨rfl, rfl, rfl, by decide +kernel, rfl, by decide +kernel, by decide +kernel⟩
def den_join_all : List D → M D := runF 1 3 (gRet (gCallK den_lot_of (aC (fNew (comp2V (eNameW 1 [1, 2]) (eName 2) (iSeq (gVar 0)) (iSeq (gVar 1)) tYes (gVar 2))) aN) aN 1 0 [0, 1] [.int 6]))
theorem ok_join_all {f : Addr} {fd : FuncData} (F : FunD K "join_all" "join_all" (defArgs s_join_all) (defBody s_join_all) (defScope s_join_all) [] [] f fd) (gf : mg "join_all" = some (.ref f)) (c_lot_of : CalW P w K mg base 4 "lot_of" (defArgs s_lot_of) (defBody s_lot_of) (defScope s_lot_of) [("below", .int (6))] ["numbers", "below"] den_lot_of) :
    Cal P w K mg base 5 "join_all" (defArgs s_join_all) (defBody s_join_all) (defScope s_join_all) ["lots"] den_join_all := by
  refine ⟨f, fd, gf, F, F.bindsN fun _ _ _ _ _ _ us hl => match us, hl with | [_], _ => rfl, fn_den (N := N_join_all) F sc_join_all fun cdv A outer s H E hr => ?_⟩
  have hN : N_join_all.Nodup := sc_join_all.nd
  have hp : PassesOwn (model P w) _ _ _ := passes_of (X := cxOf (L2N.CX P w) P w K mg base N_join_all "join_all" (defScope s_join_all) f cdv A outer s H E) rfl
  have tk : Den.Takes (cxOf (L2N.CX P w) P w K mg base N_join_all "join_all" (defScope s_join_all) f cdv A outer s H E) (wE E) := L2N.takes_of rfl rfl rfl rfl
  exact (ss_one (sRet (xCallW c_lot_of 1 [] [0, 1] [("below", .int 6)] [.int 6] (by decide) (by simp) (.cons (.int _) .nil) (by exact fun _ _ _ _ _ _ us mv ws h1 h2 h3 => match us, mv, ws, h1, h2, h3 with | [_], [_], [], _, _, _ => ⟨_, _, _, _, _, _, rfl, rfl, rfl⟩) tk (hr.mono (by omega)) (aCons (xNew (lLc2 1 2 rfl hN (jSeq (xV 0)) (fun _ _ _ _ _ => (jSeq (xV 1))) (fun _ _ _ _ _ => cNone) (fun _ _ _ _ _ => (xV 2)))) aNil) kNil)))
def N__has_all : List Str := ["first", "second", "number"]
theorem sc__has_all : FnScope N__has_all ["first", "second"] (defScope s__has_all) := ⟨rfl, rfl, rfl, by decide +kernel, rfl, by decide +kernel, by decide +kernel⟩
def den__has_all : List D → M D := runF 2 3 (gRet (fL dAll (aC (fNew (compV (eName 2) (iSeq (gVar 1)) tYes (f2 dIn (gVar 2) (gVar 0)))) aN)))
theorem ok__has_all {f : Addr} {fd : FuncData} (F : FunD K "_has_all" "_has_all" (defArgs s__has_all) (defBody s__has_all) (defScope s__has_all) [] [] f fd) (gf : mg "_has_all" = some (.ref f)) (n_all : mg "all" = none) :
    Cal P w K mg base 1 "_has_all" (defArgs s__has_all) (defBody s__has_all) (defScope s__has_all) ["first", "second"] den__has_all := by
  refine ⟨f, fd, gf, F, F.bindsN fun _ _ _ _ _ _ us hl => match us, hl with | [_, _], _ => rfl, fn_den (N := N__has_all) F sc__has_all fun cdv A outer s H E hr => ?_⟩
  have hN : N__has_all.Nodup := sc__has_all.nd
  have hp : PassesOwn (model P w) _ _ _ := passes_of (X := cxOf (L2N.CX P w) P w K mg base N__has_all "_has_all" (defScope s__has_all) f cdv A outer s H E) rfl
  have tk : Den.Takes (cxOf (L2N.CX P w) P w K mg base N__has_all "_has_all" (defScope s__has_all) f cdv A outer s H E) (wE E) := L2N.takes_of rfl rfl rfl rfl
  exact (ss_one (sRet (xAll rfl n_all (aCons (xNew (lLc 2 rfl hN (jSeq (xV 1)) (fun _ _ _ _ _ => cNone) (fun _ _ _ _ _ => (xIn (xV 2) (xV 0))))) aNil))))
def N_holds : List Str := ["first", "second"]
theorem sc_holds : FnScope N_holds ["first", "second"] (defScope s_holds) := ⟨rfl, rfl, rfl, by decide +kernel, rfl, by decide +kernel, by decide +kernel⟩
def den_holds : List D → M D := runF 2 2 (gSeq (gExp (fL den__check_lots (aC (fNew (lDis (aC (gVar 0) (aC (gVar 1) aN)))) aN))) (gRet (fL den__has_all (aC (gVar 0) (aC (gVar 1) aN)))))
theorem ok_holds {f : Addr} {fd : FuncData} (F : FunD K "holds" "holds" (defArgs s_holds) (defBody s_holds) (defScope s_holds) [] [] f fd) (gf : mg "holds" = some (.ref f)) (c__check_lots : Cal P w K mg base 6 "_check_lots" (defArgs s__check_lots) (defBody s__check_lots) (defScope s__check_lots) ["lots"] den__check_lots) (c__has_all : Cal P w K mg base 1 "_has_all" (defArgs s__has_all) (defBody s__has_all) (defScope s__has_all) ["first", "second"] den__has_all) :
    Cal P w K mg base 7 "holds" (defArgs s_holds) (defBody s_holds) (defScope s_holds) ["first", "second"] den_holds := by
  refine ⟨f, fd, gf, F, F.bindsN fun _ _ _ _ _ _ us hl => match us, hl with | [_, _], _ => rfl, fn_den (N := N_holds) F sc_holds fun cdv A outer s H E hr => ?_⟩
  have hN : N_holds.Nodup := sc_holds.nd
  have hp : PassesOwn (model P w) _ _ _ := passes_of (X := cxOf (L2N.CX P w) P w K mg base N_holds "holds" (defScope s_holds) f cdv A outer s H E) rfl
  have tk : Den.Takes (cxOf (L2N.CX P w) P w K mg base N_holds "holds" (defScope s_holds) f cdv A outer s H E) (wE E) := L2N.takes_of rfl rfl rfl rfl
  exact (ss_cons (sExp (xCall c__check_lots tk (hr.mono (by omega)) (aCons (xNew (lLst (aCons (xV 0) (aCons (xV 1) aNil)))) aNil))) (ss_one (sRet (xCall c__has_all tk (hr.mono (by omega)) (aCons (xV 0) (aCons (xV 1) aNil))))))
def N__join_of_lower : List Str := ["lots", "lot", "lower"]
theorem sc__join_of_lower : FnScope N__join_of_lower ["lots", "lot"] (defScope s__join_of_lower) := ⟨rfl, rfl, rfl, by decide +kernel, rfl, by decide +kernel, by decide +kernel⟩
def den__join_of_lower : List D → M D := runF 2 3 (gRet (fL den_join_all (aC (fNew (compV (eName 2) (iSeq (gVar 0)) (tAnd (t2 dNe (gVar 2) (gVar 1)) (tT (fL den_holds (aC (gVar 1) (aC (gVar 2) aN))))) (gVar 2))) aN)))
theorem ok__join_of_lower {f : Addr} {fd : FuncData} (F : FunD K "_join_of_lower" "_join_of_lower" (defArgs s__join_of_lower) (defBody s__join_of_lower) (defScope s__join_of_lower) [] [] f fd) (gf : mg "_join_of_lower" = some (.ref f)) (c_holds : Cal P w K mg base 7 "holds" (defArgs s_holds) (defBody s_holds) (defScope s_holds) ["first", "second"] den_holds) (c_join_all : Cal P w K mg base 5 "join_all" (defArgs s_join_all) (defBody s_join_all) (defScope s_join_all) ["lots"] den_join_all) :
    Cal P w K mg base 8 "_join_of_lower" (defArgs s__join_of_lower) (defBody s__join_of_lower) (defScope s__join_of_lower) ["lots", "lot"] den__join_of_lower := by
  refine ⟨f, fd, gf, F, F.bindsN fun _ _ _ _ _ _ us hl => match us, hl with | [_, _], _ => rfl, fn_den (N := N__join_of_lower) F sc__join_of_lower fun cdv A outer s H E hr => ?_⟩
  have hN : N__join_of_lower.Nodup := sc__join_of_lower.nd
  have hp : PassesOwn (model P w) _ _ _ := passes_of (X := cxOf (L2N.CX P w) P w K mg base N__join_of_lower "_join_of_lower" (defScope s__join_of_lower) f cdv A outer s H E) rfl
  have tk : Den.Takes (cxOf (L2N.CX P w) P w K mg base N__join_of_lower "_join_of_lower" (defScope s__join_of_lower) f cdv A outer s H E) (wE E) := L2N.takes_of rfl rfl rfl rfl
  exact (ss_one (sRet (xCall c_join_all tk (hr.mono (by omega)) (aCons (xNew (lLc 2 rfl hN (jSeq (xV 0)) (fun _ _ _ _ _ => (cOne (cBo (cAnd (cNe hr (xV 2) (xV 1)) (cAnd1 (cTru (xCall c_holds tk0 (hr.mono (by omega)) (aCons (xV 1) (aCons (xV 2) aNil))))))))) (fun _ _ _ _ _ => (xV 2)))) aNil))))
def N_unmade_rows : List Str := ["table", "lots", "lot"]
theorem sc_unmade_rows : FnScope N_unmade_rows ["table"] (defScope s_unmade_rows) := ⟨rfl, rfl, rfl, by decide +kernel, rfl, by decide +kernel, by decide +kernel⟩
def den_unmade_rows : List D → M D := runF 1 3 (gSeq (gAsg 1 [] (fL den_sorted_lots (aC (gProp "Table" den_Table_row_lots (gVar 0)) aN))) (gRetF (compV (eName 2) (iSeq (gVar 1)) (t2 dNe (fL den__join_of_lower (aC (gVar 1) (aC (gVar 2) aN))) (gVar 2)) (gVar 2))))
theorem ok_unmade_rows {f : Addr} {fd : FuncData} (F : FunD K "unmade_rows" "unmade_rows" (defArgs s_unmade_rows) (defBody s_unmade_rows) (defScope s_unmade_rows) [] [] f fd) (gf : mg "unmade_rows" = some (.ref f)) (c__join_of_lower : Cal P w K mg base 8 "_join_of_lower" (defArgs s__join_of_lower) (defBody s__join_of_lower) (defScope s__join_of_lower) ["lots", "lot"] den__join_of_lower) (c_sorted_lots : Cal P w K mg base 7 "sorted_lots" (defArgs s_sorted_lots) (defBody s_sorted_lots) (defScope s_sorted_lots) ["lots"] den_sorted_lots) (p_Table_row_lots : Prp P w K mg base 2 "Table" "row_lots" ["self"] den_Table_row_lots) :
    Cal P w K mg base 9 "unmade_rows" (defArgs s_unmade_rows) (defBody s_unmade_rows) (defScope s_unmade_rows) ["table"] den_unmade_rows := by
  refine ⟨f, fd, gf, F, F.bindsN fun _ _ _ _ _ _ us hl => match us, hl with | [_], _ => rfl, fn_den (N := N_unmade_rows) F sc_unmade_rows fun cdv A outer s H E hr => ?_⟩
  have hN : N_unmade_rows.Nodup := sc_unmade_rows.nd
  have hp : PassesOwn (model P w) _ _ _ := passes_of (X := cxOf (L2N.CX P w) P w K mg base N_unmade_rows "unmade_rows" (defScope s_unmade_rows) f cdv A outer s H E) rfl
  have tk : Den.Takes (cxOf (L2N.CX P w) P w K mg base N_unmade_rows "unmade_rows" (defScope s_unmade_rows) f cdv A outer s H E) (wE E) := L2N.takes_of rfl rfl rfl rfl
  exact (ss_cons (sLet 1 [] hN (xCall c_sorted_lots tk (hr.mono (by omega)) (aCons (xProp p_Table_row_lots (hr.mono (by omega)) (xV 0)) aNil))) (ss_one (sRetF (lLc 2 rfl hN (jSeq (xV 1)) (fun _ _ _ _ _ => (cOne (cNe hr (xCall c__join_of_lower tk0 (hr.mono (by omega)) (aCons (xV 1) (aCons (xV 2) aNil))) (xV 2)))) (fun _ _ _ _ _ => (xV 2))))))
def denf_unmade_rows : List D → M (List D) := runFF 1 3 (gSeq (gAsg 1 [] (fL den_sorted_lots (aC (gProp "Table" den_Table_row_lots (gVar 0)) aN))) (gRetF (compV (eName 2) (iSeq (gVar 1)) (t2 dNe (fL den__join_of_lower (aC (gVar 1) (aC (gVar 2) aN))) (gVar 2)) (gVar 2))))
theorem okF_unmade_rows {f : Addr} {fd : FuncData} (F : FunD K "unmade_rows" "unmade_rows" (defArgs s_unmade_rows) (defBody s_unmade_rows) (defScope s_unmade_rows) [] [] f fd) (gf : mg "unmade_rows" = some (.ref f)) (c__join_of_lower : Cal P w K mg base 8 "_join_of_lower" (defArgs s__join_of_lower) (defBody s__join_of_lower) (defScope s__join_of_lower) ["lots", "lot"] den__join_of_lower) (c_sorted_lots : Cal P w K mg base 7 "sorted_lots" (defArgs s_sorted_lots) (defBody s_sorted_lots) (defScope s_sorted_lots) ["lots"] den_sorted_lots) (p_Table_row_lots : Prp P w K mg base 2 "Table" "row_lots" ["self"] den_Table_row_lots) :
    CalF P w K mg base 9 "unmade_rows" (defArgs s_unmade_rows) (defBody s_unmade_rows) (defScope s_unmade_rows) ["table"] denf_unmade_rows := by
  refine ⟨f, fd, gf, F, F.bindsN fun _ _ _ _ _ _ us hl => match us, hl with | [_], _ => rfl, fn_denF (N := N_unmade_rows) F sc_unmade_rows fun cdv A outer s H E hr => ?_⟩
  have hN : N_unmade_rows.Nodup := sc_unmade_rows.nd
  have hp : PassesOwn (model P w) _ _ _ := passes_of (X := cxOf (L2N.CX P w) P w K mg base N_unmade_rows "unmade_rows" (defScope s_unmade_rows) f cdv A outer s H E) rfl
  have tk : Den.Takes (cxOf (L2N.CX P w) P w K mg base N_unmade_rows "unmade_rows" (defScope s_unmade_rows) f cdv A outer s H E) (wE E) := L2N.takes_of rfl rfl rfl rfl
  exact (ss_cons (sLet 1 [] hN (xCall c_sorted_lots tk (hr.mono (by omega)) (aCons (xProp p_Table_row_lots (hr.mono (by omega)) (xV 0)) aNil))) (ss_one (sRetF (lLc 2 rfl hN (jSeq (xV 1)) (fun _ _ _ _ _ => (cOne (cNe hr (xCall c__join_of_lower tk0 (hr.mono (by omega)) (aCons (xV 1) (aCons (xV 2) aNil))) (xV 2)))) (fun _ _ _ _ _ => (xV 2))))))
def N__law_same : List Str := ["value", "due", "k"]
theorem sc__law_same : FnScope N__law_same ["value", "due"] (defScope s__law_same) := ⟨rfl, rfl, rfl, by decide +kernel, rfl, by decide +kernel, by decide +kernel⟩
def den__law_same : Nat → List D → M D
  | 0 => runF 2 3 gBad
  | n + 1 => runF 2 3 (gSeq (gIf (tT (gIsi none [.ty "tuple", .ty "list"] (gVar 1))) (gSeq (gIf (tOr (tNo (tT (gIsi none [.ty "tuple", .ty "list"] (gVar 0)))) (t2 dNe (gIsi none [.ty "tuple"] (gVar 0)) (gIsi none [.ty "tuple"] (gVar 1)))) (gRet (fC (.bl false))) (fun ρ => pure (.nx ρ))) (gSeq (gIf (t2 dNe (fL dLen (aC (gVar 0) aN)) (fL dLen (aC (gVar 1) aN))) (gRet (fC (.bl false))) (fun ρ => pure (.nx ρ))) (gRet (fL dAll (aC (fNew (compV (eName 2) (iRan 1 (aC (fL dLen (aC (gVar 1) aN)) aN)) tYes (fL (den__law_same n) (aC (f2 dIx (gVar 0) (gVar 2)) (aC (f2 dIx (gVar 1) (gVar 2)) aN))))) aN))))) (fun ρ => pure (.nx ρ))) (gSeq (gIf (tOr (t2 dIsN (gVar 1) (fC .non)) (t2 dIsN (gVar 0) (fC .non))) (gRet (fAnd (f2 dIsN (gVar 1) (fC .non)) (f2 dIsN (gVar 0) (fC .non)))) (fun ρ => pure (.nx ρ))) (gSeq (gIf (tOr (tT (gIsi none [.ty "bool"] (gVar 1))) (tT (gIsi none [.ty "bool"] (gVar 0)))) (gRet (fAnd (gIsi none [.ty "bool"] (gVar 1)) (fAnd (gIsi none [.ty "bool"] (gVar 0)) (f2 dEq (gVar 0) (gVar 1))))) (fun ρ => pure (.nx ρ))) (gSeq (gIf (tT (gIsi none [.ty "str"] (gVar 1))) (gRet (fAnd (gIsi none [.ty "str"] (gVar 0)) (f2 dEq (gVar 0) (gVar 1)))) (fun ρ => pure (.nx ρ))) (gRet (fAnd (gIsi none [.ty "int"] (gVar 1)) (fAnd (gIsi none [.ty "int"] (gVar 0)) (f2 dEq (gVar 0) (gVar 1)))))))))
theorem ok__law_same {f : Addr} {fd : FuncData} (F : FunD K "_law_same" "_law_same" (defArgs s__law_same) (defBody s__law_same) (defScope s__law_same) [] [] f fd) (gf : mg "_law_same" = some (.ref f)) (n_all : mg "all" = none) (n_bool : mg "bool" = none) (n_int : mg "int" = none) (n_isinstance : mg "isinstance" = none) (n_len : mg "len" = none) (n_list : mg "list" = none) (n_range : mg "range" = none) (n_str : mg "str" = none) (n_tuple : mg "tuple" = none) :
    ∀ n, Cal P w K mg base (n + 1) "_law_same" (defArgs s__law_same) (defBody s__law_same) (defScope s__law_same) ["value", "due"] (den__law_same n)
  | 0 => ⟨f, fd, gf, F, F.bindsN fun _ _ _ _ _ _ us hl => match us, hl with | [_, _], _ => rfl, (fn_den (N := N__law_same) (k := 0) F sc__law_same fun cdv A outer s H E hr => ss_bad : _)⟩
  | n + 1 => by
    have ih := ok__law_same F gf n_all n_bool n_int n_isinstance n_len n_list n_range n_str n_tuple n
    refine ⟨f, fd, gf, F, F.bindsN fun _ _ _ _ _ _ us hl => match us, hl with | [_, _], _ => rfl, ?_⟩
    rw [show n + 1 + 1 = (n + 1) + 1 by omega]
    refine fn_den (N := N__law_same) F sc__law_same fun cdv A outer s H E hr => ?_
    have hN : N__law_same.Nodup := sc__law_same.nd
    have hp : PassesOwn (model P w) _ _ _ := passes_of (X := cxOf (L2N.CX P w) P w K mg base N__law_same "_law_same" (defScope s__law_same) f cdv A outer s H E) rfl
    have tk : Den.Takes (cxOf (L2N.CX P w) P w K mg base N__law_same "_law_same" (defScope s__law_same) f cdv A outer s H E) (wE E) := L2N.takes_of rfl rfl rfl rfl
    exact (ss_cons (ss_if (cTru (xIsiT "tuple" "list" bt_tuple bt_list (by decide) (by decide) (by decide) (by decide) (by decide) (xV 1) n_isinstance n_tuple n_list)) (ss_cons (ss_if (cBo (cOr (cNot (cTru (xIsiT "tuple" "list" bt_tuple bt_list (by decide) (by decide) (by decide) (by decide) (by decide) (xV 0) n_isinstance n_tuple n_list))) (cOr1 (cNe hr (xIsi_tuple (xV 0) n_isinstance n_tuple) (xIsi_tuple (xV 1) n_isinstance n_tuple))))) (ss_one (sRet xB)) ss_nil) (ss_cons (ss_if (cNe hr (xLen n_len (aCons (xV 0) aNil)) (xLen n_len (aCons (xV 1) aNil))) (ss_one (sRet xB)) ss_nil) (ss_one (sRet (xAll rfl n_all (aCons (xNew (lLc 2 rfl hN (jR1 n_range (aCons (xLen n_len (aCons (xV 1) aNil)) aNil)) (fun _ _ _ _ _ => cNone) (fun _ _ _ _ _ => (xCall ih tk0 (hr.mono (by omega)) (aCons (xIx (xV 0) (xV 2)) (aCons (xIx (xV 1) (xV 2)) aNil)))))) aNil)))))) ss_nil) (ss_cons (ss_if (cBo (cOr (cIs (xV 1) xN) (cOr1 (cIs (xV 0) xN)))) (ss_one (sRet (xAnd (xIs (xV 1) xN) (xOne (xIs (xV 0) xN))))) ss_nil) (ss_cons (ss_if (cBo (cOr (cTru (xIsi_bool (xV 1) n_isinstance n_bool)) (cOr1 (cTru (xIsi_bool (xV 0) n_isinstance n_bool))))) (ss_one (sRet (xAnd (xIsi_bool (xV 1) n_isinstance n_bool) (xAnd (xIsi_bool (xV 0) n_isinstance n_bool) (xOne (xEq hr (xV 0) (xV 1))))))) ss_nil) (ss_cons (ss_if (cTru (xIsi_str (xV 1) n_isinstance n_str)) (ss_one (sRet (xAnd (xIsi_str (xV 0) n_isinstance n_str) (xOne (xEq hr (xV 0) (xV 1)))))) ss_nil) (ss_one (sRet (xAnd (xIsi_int (xV 1) n_isinstance n_int) (xAnd (xIsi_int (xV 0) n_isinstance n_int) (xOne (xEq hr (xV 0) (xV 1)))))))))))
def N_Table_columns : List Str := ["self", "number", "row"]
theorem sc_Table_columns : FnScope N_Table_columns ["self"] (defScope s_Table_columns) := ⟨rfl, rfl, rfl, by decide +kernel, rfl, by decide +kernel, by decide +kernel⟩
def den_Table_columns : List D → M D := runF 1 3 (gRet (fNew (compV (eName 1) (iRan 1 (aC (gFld "Table" "_width" (gVar 0)) aN)) tYes (fNew (compV (eName 2) (iSeq (gFld "Table" "_cells" (gVar 0))) tYes (f2 dIx (gVar 2) (gVar 1)))))))
theorem ok_Table_columns {f : Addr} {fd : FuncData} (F : FunD K "columns" "Table.columns" (defArgs s_Table_columns) (defBody s_Table_columns) (defScope s_Table_columns) [] [] f fd) (fl_Table__cells : Fld K "Table" "_cells") (fl_Table__width : Fld K "Table" "_width") (n_range : mg "range" = none) :
    Binds K fd ["self"] [] ∧ FnOk P w K mg base (L2N.CX P w) 1 f fd ["self"] (spOf K den_Table_columns) := by
  refine ⟨F.bindsN fun _ _ _ _ _ _ us hl => match us, hl with | [_], _ => rfl, fn_den (N := N_Table_columns) F sc_Table_columns fun cdv A outer s H E hr => ?_⟩
  have hN : N_Table_columns.Nodup := sc_Table_columns.nd
  have hp : PassesOwn (model P w) _ _ _ := passes_of (X := cxOf (L2N.CX P w) P w K mg base N_Table_columns "Table.columns" (defScope s_Table_columns) f cdv A outer s H E) rfl
  have tk : Den.Takes (cxOf (L2N.CX P w) P w K mg base N_Table_columns "Table.columns" (defScope s_Table_columns) f cdv A outer s H E) (wE E) := L2N.takes_of rfl rfl rfl rfl
  exact (ss_one (sRet (xNew (lLc 1 rfl hN (jR1 n_range (aCons (xFld fl_Table__width (xV 0)) aNil)) (fun _ _ _ _ _ => cNone) (fun _ _ _ _ _ => (xNew (lLc 2 rfl hN (jSeq (xFld fl_Table__cells (xV 0))) (fun _ _ _ _ _ => cNone) (fun _ _ _ _ _ => (xIx (xV 2) (xV 1))))))))))
def N_Table_height : List Str := ["self"]
theorem sc_Table_height : FnScope N_Table_height ["self"] (defScope s_Table_height) := ⟨rfl, rfl, rfl, by decide +kernel, rfl, by decide +kernel, by decide +kernel⟩
def den_Table_height : List D → M D := runF 1 1 (gRet (fL dLen (aC (gFld "Table" "_cells" (gVar 0)) aN)))
theorem ok_Table_height {f : Addr} {fd : FuncData} (F : FunD K "height" "Table.height" (defArgs s_Table_height) (defBody s_Table_height) (defScope s_Table_height) [] [] f fd) (fl_Table__cells : Fld K "Table" "_cells") (n_len : mg "len" = none) :
    Binds K fd ["self"] [] ∧ FnOk P w K mg base (L2N.CX P w) 1 f fd ["self"] (spOf K den_Table_height) := by
  refine ⟨F.bindsN fun _ _ _ _ _ _ us hl => match us, hl with | [_], _ => rfl, fn_den (N := N_Table_height) F sc_Table_height fun cdv A outer s H E hr => ?_⟩
  have hN : N_Table_height.Nodup := sc_Table_height.nd
  have hp : PassesOwn (model P w) _ _ _ := passes_of (X := cxOf (L2N.CX P w) P w K mg base N_Table_height "Table.height" (defScope s_Table_height) f cdv A outer s H E) rfl
  have tk : Den.Takes (cxOf (L2N.CX P w) P w K mg base N_Table_height "Table.height" (defScope s_Table_height) f cdv A outer s H E) (wE E) := L2N.takes_of rfl rfl rfl rfl
  exact (ss_one (sRet (xLen n_len (aCons (xFld fl_Table__cells (xV 0)) aNil))))
def N_turned : List Str := ["table"]
theorem sc_turned : FnScope N_turned ["table"] (defScope s_turned) := ⟨rfl, rfl, rfl, by decide +kernel, rfl, by decide +kernel, by decide +kernel⟩
def den_turned : List D → M D := runF 1 1 (gRet (gCallK (fun ds => noErr (do let fs ← deni_Table_init ds; pure (.obj "Table" fs))) (aC (gProp "Table" den_Table_columns (gVar 0)) aN) (aC (gProp "Table" den_Table_height (gVar 0)) aN) 1 1 [0, 1] []))
theorem ok_turned {f : Addr} {fd : FuncData} (F : FunD K "turned" "turned" (defArgs s_turned) (defBody s_turned) (defScope s_turned) [] [] f fd) (gf : mg "turned" = some (.ref f)) (p_Table_columns : Prp P w K mg base 1 "Table" "columns" ["self"] den_Table_columns) (p_Table_height : Prp P w K mg base 1 "Table" "height" ["self"] den_Table_height) (mk_Table : Mkr P w K mg base 4 "Table" "Table.__init__" (defArgs s_Table_init) (defBody s_Table_init) (defScope s_Table_init) [("width", .non)] ["self", "rows", "width"] deni_Table_init) :
    Cal P w K mg base 6 "turned" (defArgs s_turned) (defBody s_turned) (defScope s_turned) ["table"] den_turned := by
  refine ⟨f, fd, gf, F, F.bindsN fun _ _ _ _ _ _ us hl => match us, hl with | [_], _ => rfl, fn_den (N := N_turned) F sc_turned fun cdv A outer s H E hr => ?_⟩
  have hN : N_turned.Nodup := sc_turned.nd
  have hp : PassesOwn (model P w) _ _ _ := passes_of (X := cxOf (L2N.CX P w) P w K mg base N_turned "turned" (defScope s_turned) f cdv A outer s H E) rfl
  have tk : Den.Takes (cxOf (L2N.CX P w) P w K mg base N_turned "turned" (defScope s_turned) f cdv A outer s H E) (wE E) := L2N.takes_of rfl rfl rfl rfl
  exact (ss_one (sRet (xMake mk_Table 1 ["width"] [0, 1] [] [] (by decide) (by simp) .nil (by exact fun _ _ _ _ _ _ us mv ws h1 h2 h3 => match us, mv, ws, h1, h2, h3 with | [_, _], [], [_], _, _, _ => rfl) (hr.mono (by omega)) (aCons (xProp p_Table_columns (hr.mono (by omega)) (xV 0)) aNil) (kCons (xProp p_Table_height (hr.mono (by omega)) (xV 0)) kNil))))
def N_unmade_columns : List Str := ["table"]
theorem sc_unmade_columns : FnScope N_unmade_columns ["table"] (defScope s_unmade_columns) := ⟨rfl, rfl, rfl, by decide +kernel, rfl, by decide +kernel, by decide +kernel⟩
def den_unmade_columns : List D → M D := runF 1 1 (gRetF (lG denf_unmade_rows (aC (fL den_turned (aC (gVar 0) aN)) aN)))
theorem ok_unmade_columns {f : Addr} {fd : FuncData} (F : FunD K "unmade_columns" "unmade_columns" (defArgs s_unmade_columns) (defBody s_unmade_columns) (defScope s_unmade_columns) [] [] f fd) (gf : mg "unmade_columns" = some (.ref f)) (c_turned : Cal P w K mg base 6 "turned" (defArgs s_turned) (defBody s_turned) (defScope s_turned) ["table"] den_turned) (cf_unmade_rows : CalF P w K mg base 9 "unmade_rows" (defArgs s_unmade_rows) (defBody s_unmade_rows) (defScope s_unmade_rows) ["table"] denf_unmade_rows) :
    Cal P w K mg base 10 "unmade_columns" (defArgs s_unmade_columns) (defBody s_unmade_columns) (defScope s_unmade_columns) ["table"] den_unmade_columns := by
  refine ⟨f, fd, gf, F, F.bindsN fun _ _ _ _ _ _ us hl => match us, hl with | [_], _ => rfl, fn_den (N := N_unmade_columns) F sc_unmade_columns fun cdv A outer s H E hr => ?_⟩
  have hN : N_unmade_columns.Nodup := sc_unmade_columns.nd
  have hp : PassesOwn (model P w) _ _ _ := passes_of (X := cxOf (L2N.CX P w) P w K mg base N_unmade_columns "unmade_columns" (defScope s_unmade_columns) f cdv A outer s H E) rfl
  have tk : Den.Takes (cxOf (L2N.CX P w) P w K mg base N_unmade_columns "unmade_columns" (defScope s_unmade_columns) f cdv A outer s H E) (wE E) := L2N.takes_of rfl rfl rfl rfl
  exact (ss_one (sRetF (lCall cf_unmade_rows tk (hr.mono (by omega)) (aCons (xCall c_turned tk (hr.mono (by omega)) (aCons (xV 0) aNil)) aNil))))
def denf_unmade_columns : List D → M (List D) := runFF 1 1 (gRetF (lG denf_unmade_rows (aC (fL den_turned (aC (gVar 0) aN)) aN)))
theorem okF_unmade_columns {f : Addr} {fd : FuncData} (F : FunD K "unmade_columns" "unmade_columns" (defArgs s_unmade_columns) (defBody s_unmade_columns) (defScope s_unmade_columns) [] [] f fd) (gf : mg "unmade_columns" = some (.ref f)) (c_turned : Cal P w K mg base 6 "turned" (defArgs s_turned) (defBody s_turned) (defScope s_turned) ["table"] den_turned) (cf_unmade_rows : CalF P w K mg base 9 "unmade_rows" (defArgs s_unmade_rows) (defBody s_unmade_rows) (defScope s_unmade_rows) ["table"] denf_unmade_rows) :
    CalF P w K mg base 10 "unmade_columns" (defArgs s_unmade_columns) (defBody s_unmade_columns) (defScope s_unmade_columns) ["table"] denf_unmade_columns := by
  refine ⟨f, fd, gf, F, F.bindsN fun _ _ _ _ _ _ us hl => match us, hl with | [_], _ => rfl, fn_denF (N := N_unmade_columns) F sc_unmade_columns fun cdv A outer s H E hr => ?_⟩
  have hN : N_unmade_columns.Nodup := sc_unmade_columns.nd
  have hp : PassesOwn (model P w) _ _ _ := passes_of (X := cxOf (L2N.CX P w) P w K mg base N_unmade_columns "unmade_columns" (defScope s_unmade_columns) f cdv A outer s H E) rfl
  have tk : Den.Takes (cxOf (L2N.CX P w) P w K mg base N_unmade_columns "unmade_columns" (defScope s_unmade_columns) f cdv A outer s H E) (wE E) := L2N.takes_of rfl rfl rfl rfl
  exact (ss_one (sRetF (lCall cf_unmade_rows tk (hr.mono (by omega)) (aCons (xCall c_turned tk (hr.mono (by omega)) (aCons (xV 0) aNil)) aNil))))
def N__law_near_lot : List Str := ["store", "limit", "lot", "spot", "turned_about", "things", "one"]
theorem sc__law_near_lot : FnScope N__law_near_lot ["store", "limit"] (defScope s__law_near_lot) := ⟨rfl, rfl, rfl, by decide +kernel, rfl, by decide +kernel, by decide +kernel⟩
def den__law_near_lot : List D → M D := runF 2 7 (gSeq (gAsg 2 [] (fL den__law_lot (aC (gVar 0) (aC (gVar 1) aN)))) (gSeq (gAsg 3 [] (fL den__law_take (aC (gVar 0) (aC (f2 dSub (fL dLen (aC (gVar 2) aN)) (fC (.int 1))) aN)))) (gSeq (gAsg 4 [] (fTup (aC (fC (.int 1)) (aC (fC (.int 0)) aN)))) (gSeq (gIf (t2 dGt (fL dLen (aC (gVar 2) aN)) (fC (.int 1))) (gAsg 4 [] (f2 dAddA (f2 dAddA (gSliceT (gVar 2) oNo (oYes (gVar 3))) (fTup (aC (f2 dIx (gVar 2) (f2 dAdd (gVar 3) (fC (.int 1)))) (aC (f2 dIx (gVar 2) (gVar 3)) aN)))) (gSliceT (gVar 2) (oYes (f2 dAdd (gVar 3) (fC (.int 2)))) oNo))) (fun ρ => pure (.nx ρ))) (gSeq (gAsg 5 [] (fNew (lDis (aC (fNew (compV (eName 6) (iSeq (gVar 2)) tYes (gVar 6))) (aC (f2 dAddA (gVar 2) (fTup (aC (gVar 1) aN))) (aC (f2 dAddA (fTup (aC (f1 dNeg (fC (.int 1))) aN)) (gVar 2)) (aC (f2 dAddA (fTup (aC (fC (.bl false)) aN)) (gSliceT (gVar 2) (oYes (fC (.int 1))) oNo)) (aC (fTup (aC (fC (.int 0)) (aC (fC (.int 0)) aN))) (aC (gVar 4) (aC (fTup (aC (gVar 2) aN)) aN)))))))))) (gSeq (gAsg 5 [] (f2 dAdd (gVar 5) (fNew (lDis (aC (fC .non) (aC (fC (.str "0")) (aC (fC (.int 0)) (aC (f2 dAddA (gVar 2) (fTup (aC (f2 dAdd (gVar 1) (f2 dPow (fC (.int 10)) (fC (.int 20)))) aN))) (aC (f2 dAddA (gVar 2) (fTup (aC (fC (.str "1")) aN))) (aC (f2 dAddA (gVar 2) (fTup (aC (fC .non) aN))) (aC (f2 dAddA (gVar 2) (fTup (aC (fC (.bl true)) aN))) (aC (fNew (lDis aN)) (aC (fC (.str "")) aN))))))))))))) (gRet (f2 dIx (gVar 5) (fL den__law_take (aC (gVar 0) (aC (fC (.int 16)) aN)))))))))))
theorem ok__law_near_lot {f : Addr} {fd : FuncData} (F : FunD K "_law_near_lot" "_law_near_lot" (defArgs s__law_near_lot) (defBody s__law_near_lot) (defScope s__law_near_lot) [] [] f fd) (gf : mg "_law_near_lot" = some (.ref f)) (c__law_lot : Cal P w K mg base 3 "_law_lot" (defArgs s__law_lot) (defBody s__law_lot) (defScope s__law_lot) ["store", "limit"] den__law_lot) (c__law_take : Cal P w K mg base 2 "_law_take" (defArgs s__law_take) (defBody s__law_take) (defScope s__law_take) ["store", "many"] den__law_take) (n_len : mg "len" = none) :
    Cal P w K mg base 4 "_law_near_lot" (defArgs s__law_near_lot) (defBody s__law_near_lot) (defScope s__law_near_lot) ["store", "limit"] den__law_near_lot := by
  refine ⟨f, fd, gf, F, F.bindsN fun _ _ _ _ _ _ us hl => match us, hl with | [_, _], _ => rfl, fn_den (N := N__law_near_lot) F sc__law_near_lot fun cdv A outer s H E hr => ?_⟩
  have hN : N__law_near_lot.Nodup := sc__law_near_lot.nd
  have hp : PassesOwn (model P w) _ _ _ := passes_of (X := cxOf (L2N.CX P w) P w K mg base N__law_near_lot "_law_near_lot" (defScope s__law_near_lot) f cdv A outer s H E) rfl
  have tk : Den.Takes (cxOf (L2N.CX P w) P w K mg base N__law_near_lot "_law_near_lot" (defScope s__law_near_lot) f cdv A outer s H E) (wE E) := L2N.takes_of rfl rfl rfl rfl
  exact (ss_cons (sLet 2 [] hN (xCall c__law_lot tk (hr.mono (by omega)) (aCons (xV 0) (aCons (xV 1) aNil)))) (ss_cons (sLet 3 [] hN (xCall c__law_take tk (hr.mono (by omega)) (aCons (xV 0) (aCons (xSub (xLen n_len (aCons (xV 2) aNil)) xI) aNil)))) (ss_cons (sLet 4 [] hN (xTup (aCons xI (aCons xI aNil)))) (ss_cons (ss_if (cGt (xLen n_len (aCons (xV 2) aNil)) xI) (ss_one (sLet 4 [] hN (xAddA (xAddA (xSlT (xV 2) oNone (oSome (xV 3))) (xTup (aCons (xIx (xV 2) (xAdd (xV 3) xI)) (aCons (xIx (xV 2) (xV 3)) aNil)))) (xSlT (xV 2) (oSome (xAdd (xV 3) xI)) oNone)))) ss_nil) (ss_cons (sLet 5 [] hN (xNew (lLst (aCons (xNew (lLc 6 rfl hN (jSeq (xV 2)) (fun _ _ _ _ _ => cNone) (fun _ _ _ _ _ => (xV 6)))) (aCons (xAddA (xV 2) (xTup (aCons (xV 1) aNil))) (aCons (xAddA (xTup (aCons (xNeg xI) aNil)) (xV 2)) (aCons (xAddA (xTup (aCons xB aNil)) (xSlT (xV 2) (oSome xI) oNone)) (aCons (xTup (aCons xI (aCons xI aNil))) (aCons (xV 4) (aCons (xTup (aCons (xV 2) aNil)) aNil)))))))))) (ss_cons (sLet 5 [] hN (xAdd (xV 5) (xNew (lLst (aCons xN (aCons xS (aCons xI (aCons (xAddA (xV 2) (xTup (aCons (xAdd (xV 1) (xPow xI xI)) aNil))) (aCons (xAddA (xV 2) (xTup (aCons xS aNil))) (aCons (xAddA (xV 2) (xTup (aCons xN aNil))) (aCons (xAddA (xV 2) (xTup (aCons xB aNil))) (aCons (xNew (lLst aNil)) (aCons xS aNil))))))))))))) (ss_one (sRet (xIx (xV 5) (xCall c__law_take tk (hr.mono (by omega)) (aCons (xV 0) (aCons xI aNil))))))))))))
def N__law_alike : List Str := ["lot", "one"]
theorem sc__law_alike : FnScope N__law_alike ["lot"] (defScope s__law_alike) := ⟨rfl, rfl, rfl, by decide +kernel, rfl, by decide +kernel, by decide +kernel⟩
def den__law_alike : List D → M D := runF 1 2 (gRet (fNew (lDis (aC (gVar 0) (aC (fNew (compV (eName 1) (iSeq (gVar 0)) tYes (gVar 1))) (aC (fL dTuple (aC (fNew (compV (eName 1) (iSeq (gVar 0)) tYes (fIf (t2 dLt (gVar 1) (fC (.int 2))) (f2 dEq (gVar 1) (fC (.int 1))) (gVar 1)))) aN)) aN))))))
theorem ok__law_alike {f : Addr} {fd : FuncData} (F : FunD K "_law_alike" "_law_alike" (defArgs s__law_alike) (defBody s__law_alike) (defScope s__law_alike) [] [] f fd) (gf : mg "_law_alike" = some (.ref f)) (n_tuple : mg "tuple" = none) :
    Cal P w K mg base 1 "_law_alike" (defArgs s__law_alike) (defBody s__law_alike) (defScope s__law_alike) ["lot"] den__law_alike := by
  refine ⟨f, fd, gf, F, F.bindsN fun _ _ _ _ _ _ us hl => match us, hl with | [_], _ => rfl, fn_den (N := N__law_alike) F sc__law_alike fun cdv A outer s H E hr => ?_⟩
  have hN : N__law_alike.Nodup := sc__law_alike.nd
  have hp : PassesOwn (model P w) _ _ _ := passes_of (X := cxOf (L2N.CX P w) P w K mg base N__law_alike "_law_alike" (defScope s__law_alike) f cdv A outer s H E) rfl
  have tk : Den.Takes (cxOf (L2N.CX P w) P w K mg base N__law_alike "_law_alike" (defScope s__law_alike) f cdv A outer s H E) (wE E) := L2N.takes_of rfl rfl rfl rfl
  exact (ss_one (sRet (xNew (lLst (aCons (xV 0) (aCons (xNew (lLc 1 rfl hN (jSeq (xV 0)) (fun _ _ _ _ _ => cNone) (fun _ _ _ _ _ => (xV 1)))) (aCons (xTuple n_tuple (aCons (xNew (lLc 1 rfl hN (jSeq (xV 0)) (fun _ _ _ _ _ => cNone) (fun _ _ _ _ _ => (xIf (cLt (xV 1) xI) (xEq hr (xV 1) xI) (xV 1))))) aNil)) aNil)))))))
def N__law_values : List Str := ["store", "grids", "rows", "values", "k", "lots"]
theorem sc__law_values : FnScope N__law_values ["store", "grids", "rows"] (defScope s__law_values) := ⟨rfl, rfl, rfl, by decide +kernel, rfl, by decide +kernel, by decide +kernel⟩
def den__law_values : List D → M D := runF 3 6 (gSeq (gNew 3 [] (lDis (aC (fTup aN) (aC (fL den__law_lot (aC (gVar 0) (aC (fC (.int 6)) aN))) (aC (fL den__law_near_lot (aC (gVar 0) (aC (f2 dIx (f2 dIx (gVar 1) (fC (.int 0))) (fC (.int 2))) aN))) aN))))) (gSeq (gFor (iRan 1 (aC (fC (.int 2)) aN)) (bName 4) (gSeq (gAsg 5 [] (fL den__law_lots (aC (f2 dIx (gVar 1) (gVar 4)) aN))) (gSeq (gApp 3 [] (fL den__law_join (aC (gVar 5) aN))) (gSeq (gIf (t2 dGt (fL dLen (aC (gVar 5) aN)) (fC (.int 0))) (gApp 3 [] (fL den__law_pick (aC (gVar 0) (aC (gVar 5) aN)))) (fun ρ => pure (.nx ρ))) (gIf (t2 dGt (fL dLen (aC (f2 dIx (gVar 2) (gVar 4)) aN)) (fC (.int 0))) (gGrow 3 (fL den__law_alike (aC (fL den__law_pick (aC (gVar 0) (aC (f2 dIx (gVar 2) (gVar 4)) aN))) aN))) (fun ρ => pure (.nx ρ))))))) (gRet (gVar 3))))
theorem ok__law_values {f : Addr} {fd : FuncData} (F : FunD K "_law_values" "_law_values" (defArgs s__law_values) (defBody s__law_values) (defScope s__law_values) [] [] f fd) (gf : mg "_law_values" = some (.ref f)) (c__law_alike : Cal P w K mg base 1 "_law_alike" (defArgs s__law_alike) (defBody s__law_alike) (defScope s__law_alike) ["lot"] den__law_alike) (c__law_join : Cal P w K mg base 1 "_law_join" (defArgs s__law_join) (defBody s__law_join) (defScope s__law_join) ["lots"] den__law_join) (c__law_lot : Cal P w K mg base 3 "_law_lot" (defArgs s__law_lot) (defBody s__law_lot) (defScope s__law_lot) ["store", "limit"] den__law_lot) (c__law_lots : Cal P w K mg base 1 "_law_lots" (defArgs s__law_lots) (defBody s__law_lots) (defScope s__law_lots) ["grid"] den__law_lots) (c__law_near_lot : Cal P w K mg base 4 "_law_near_lot" (defArgs s__law_near_lot) (defBody s__law_near_lot) (defScope s__law_near_lot) ["store", "limit"] den__law_near_lot) (c__law_pick : Cal P w K mg base 3 "_law_pick" (defArgs s__law_pick) (defBody s__law_pick) (defScope s__law_pick) ["store", "things"] den__law_pick) (n_len : mg "len" = none) (n_range : mg "range" = none) :
    Cal P w K mg base 5 "_law_values" (defArgs s__law_values) (defBody s__law_values) (defScope s__law_values) ["store", "grids", "rows"] den__law_values := by
  refine ⟨f, fd, gf, F, F.bindsN fun _ _ _ _ _ _ us hl => match us, hl with | [_, _, _], _ => rfl, fn_den (N := N__law_values) F sc__law_values fun cdv A outer s H E hr => ?_⟩
  have hN : N__law_values.Nodup := sc__law_values.nd
  have hp : PassesOwn (model P w) _ _ _ := passes_of (X := cxOf (L2N.CX P w) P w K mg base N__law_values "_law_values" (defScope s__law_values) f cdv A outer s H E) rfl
  have tk : Den.Takes (cxOf (L2N.CX P w) P w K mg base N__law_values "_law_values" (defScope s__law_values) f cdv A outer s H E) (wE E) := L2N.takes_of rfl rfl rfl rfl
  exact (ss_cons (sOwn 3 [] hN (lLst (aCons (xTup aNil) (aCons (xCall c__law_lot tk (hr.mono (by omega)) (aCons (xV 0) (aCons xI aNil))) (aCons (xCall c__law_near_lot tk (hr.mono (by omega)) (aCons (xV 0) (aCons (xIx (xIx (xV 1) xI) xI) aNil))) aNil))))) (ss_cons (sFor 4 hN hp rfl (jR1 n_range (aCons xI aNil)) (ss_cons (sLet 5 [] hN (xCall c__law_lots tk (hr.mono (by omega)) (aCons (xIx (xV 1) (xV 4)) aNil))) (ss_cons (sApp 3 [] (xCall c__law_join tk (hr.mono (by omega)) (aCons (xV 5) aNil))) (ss_cons (ss_if (cGt (xLen n_len (aCons (xV 5) aNil)) xI) (ss_one (sApp 3 [] (xCall c__law_pick tk (hr.mono (by omega)) (aCons (xV 0) (aCons (xV 5) aNil))))) ss_nil) (ss_one (ss_if (cGt (xLen n_len (aCons (xIx (xV 2) (xV 4)) aNil)) xI) (ss_one (sGrow 3 hN (xCall c__law_alike tk (hr.mono (by omega)) (aCons (xCall c__law_pick tk (hr.mono (by omega)) (aCons (xV 0) (aCons (xIx (xV 2) (xV 4)) aNil))) aNil)))) ss_nil)))))) (ss_one (sRet (xV 3)))))
def N__law_bare : List Str := ["value", "one"]
theorem sc__law_bare : FnScope N__law_bare ["value"] (defScope s__law_bare) := ⟨rfl, rfl, rfl, by decide +kernel, rfl, by decide +kernel, by decide +kernel⟩
def den__law_bare : Nat → List D → M D
  | 0 => runF 1 2 gBad
  | n + 1 => runF 1 2 (gSeq (gIf (tT (gIsi (some "Table") [.own "Table"] (gVar 0))) (gRet (gVar 0)) (fun ρ => pure (.nx ρ))) (gSeq (gIf (tT (gIsi none [.ty "tuple"] (gVar 0))) (gRet (fL dTuple (aC (fNew (compV (eName 1) (iSeq (gVar 0)) tYes (fL (den__law_bare n) (aC (gVar 1) aN)))) aN))) (fun ρ => pure (.nx ρ))) (gSeq (gIf (tT (gIsi none [.ty "list"] (gVar 0))) (gRet (fNew (compV (eName 1) (iSeq (gVar 0)) tYes (fL (den__law_bare n) (aC (gVar 1) aN))))) (fun ρ => pure (.nx ρ))) (gRet (gVar 0)))))
theorem ok__law_bare {f : Addr} {fd : FuncData} (F : FunD K "_law_bare" "_law_bare" (defArgs s__law_bare) (defBody s__law_bare) (defScope s__law_bare) [] [] f fd) (gf : mg "_law_bare" = some (.ref f)) (ic_Table : InstC K "Table") (g_Table : mg "Table" = some (.ref (He.ga K "Table"))) (n_isinstance : mg "isinstance" = none) (n_list : mg "list" = none) (n_tuple : mg "tuple" = none) :
    ∀ n, Cal P w K mg base (n + 1) "_law_bare" (defArgs s__law_bare) (defBody s__law_bare) (defScope s__law_bare) ["value"] (den__law_bare n)
  | 0 => ⟨f, fd, gf, F, F.bindsN fun _ _ _ _ _ _ us hl => match us, hl with | [_], _ => rfl, (fn_den (N := N__law_bare) (k := 0) F sc__law_bare fun cdv A outer s H E hr => ss_bad : _)⟩
  | n + 1 => by
    have ih := ok__law_bare F gf ic_Table g_Table n_isinstance n_list n_tuple n
    refine ⟨f, fd, gf, F, F.bindsN fun _ _ _ _ _ _ us hl => match us, hl with | [_], _ => rfl, ?_⟩
    rw [show n + 1 + 1 = (n + 1) + 1 by omega]
    refine fn_den (N := N__law_bare) F sc__law_bare fun cdv A outer s H E hr => ?_
    have hN : N__law_bare.Nodup := sc__law_bare.nd
    have hp : PassesOwn (model P w) _ _ _ := passes_of (X := cxOf (L2N.CX P w) P w K mg base N__law_bare "_law_bare" (defScope s__law_bare) f cdv A outer s H E) rfl
    have tk : Den.Takes (cxOf (L2N.CX P w) P w K mg base N__law_bare "_law_bare" (defScope s__law_bare) f cdv A outer s H E) (wE E) := L2N.takes_of rfl rfl rfl rfl
    exact (ss_cons (ss_if (cTru (xIsiO ic_Table (xV 0) n_isinstance g_Table)) (ss_one (sRet (xV 0))) ss_nil) (ss_cons (ss_if (cTru (xIsi_tuple (xV 0) n_isinstance n_tuple)) (ss_one (sRet (xTuple n_tuple (aCons (xNew (lLc 1 rfl hN (jSeq (xV 0)) (fun _ _ _ _ _ => cNone) (fun _ _ _ _ _ => (xCall ih tk0 (hr.mono (by omega)) (aCons (xV 1) aNil))))) aNil)))) ss_nil) (ss_cons (ss_if (cTru (xIsi_list (xV 0) n_isinstance n_list)) (ss_one (sRet (xNew (lLc 1 rfl hN (jSeq (xV 0)) (fun _ _ _ _ _ => cNone) (fun _ _ _ _ _ => (xCall ih tk0 (hr.mono (by omega)) (aCons (xV 1) aNil))))))) ss_nil) (ss_one (sRet (xV 0))))))
def N__law_is_integer : List Str := ["value"]
theorem sc__law_is_integer : FnScope N__law_is_integer ["value"] (defScope s__law_is_integer) := ⟨rfl, rfl, rfl, by decide +kernel, rfl, by decide +kernel, by decide +kernel⟩
def den__law_is_integer : List D → M D := runF 1 1 (gRet (fAnd (gIsi none [.ty "int"] (gVar 0)) (fNot (gIsi none [.ty "bool"] (gVar 0)))))
theorem ok__law_is_integer {f : Addr} {fd : FuncData} (F : FunD K "_law_is_integer" "_law_is_integer" (defArgs s__law_is_integer) (defBody s__law_is_integer) (defScope s__law_is_integer) [] [] f fd) (gf : mg "_law_is_integer" = some (.ref f)) (n_bool : mg "bool" = none) (n_int : mg "int" = none) (n_isinstance : mg "isinstance" = none) :
    Cal P w K mg base 1 "_law_is_integer" (defArgs s__law_is_integer) (defBody s__law_is_integer) (defScope s__law_is_integer) ["value"] den__law_is_integer := by
  refine ⟨f, fd, gf, F, F.bindsN fun _ _ _ _ _ _ us hl => match us, hl with | [_], _ => rfl, fn_den (N := N__law_is_integer) F sc__law_is_integer fun cdv A outer s H E hr => ?_⟩
  have hN : N__law_is_integer.Nodup := sc__law_is_integer.nd
  have hp : PassesOwn (model P w) _ _ _ := passes_of (X := cxOf (L2N.CX P w) P w K mg base N__law_is_integer "_law_is_integer" (defScope s__law_is_integer) f cdv A outer s H E) rfl
  have tk : Den.Takes (cxOf (L2N.CX P w) P w K mg base N__law_is_integer "_law_is_integer" (defScope s__law_is_integer) f cdv A outer s H E) (wE E) := L2N.takes_of rfl rfl rfl rfl
  exact (ss_one (sRet (xAnd (xIsi_int (xV 0) n_isinstance n_int) (xOne (xNot (xIsi_bool (xV 0) n_isinstance n_bool))))))
def N__law_is_lot : List Str := ["value", "limit", "last", "one"]
theorem sc__law_is_lot : FnScope N__law_is_lot ["value", "limit"] (defScope s__law_is_lot) := ⟨rfl, rfl, rfl, by decide +kernel, rfl, by decide +kernel, by decide +kernel⟩
def den__law_is_lot : List D → M D := runF 2 4 (gSeq (gIf (tNo (tT (gIsi none [.ty "tuple"] (gVar 0)))) (gRet (fC (.bl false))) (fun ρ => pure (.nx ρ))) (gSeq (gAsg 2 [] (f1 dNeg (fC (.int 1)))) (gSeq (gFor (iSeq (gVar 0)) (bName 3) (gSeq (gIf (tOr (tNo (tT (fL den__law_is_integer (aC (gVar 3) aN)))) (tOr (t2 dLe (gVar 3) (gVar 2)) (t2 dGe (gVar 3) (gVar 1)))) (gRet (fC (.bl false))) (fun ρ => pure (.nx ρ))) (gAsg 2 [] (gVar 3)))) (gRet (fC (.bl true))))))
theorem ok__law_is_lot {f : Addr} {fd : FuncData} (F : FunD K "_law_is_lot" "_law_is_lot" (defArgs s__law_is_lot) (defBody s__law_is_lot) (defScope s__law_is_lot) [] [] f fd) (gf : mg "_law_is_lot" = some (.ref f)) (c__law_is_integer : Cal P w K mg base 1 "_law_is_integer" (defArgs s__law_is_integer) (defBody s__law_is_integer) (defScope s__law_is_integer) ["value"] den__law_is_integer) (n_isinstance : mg "isinstance" = none) (n_tuple : mg "tuple" = none) :
    Cal P w K mg base 2 "_law_is_lot" (defArgs s__law_is_lot) (defBody s__law_is_lot) (defScope s__law_is_lot) ["value", "limit"] den__law_is_lot := by
  refine ⟨f, fd, gf, F, F.bindsN fun _ _ _ _ _ _ us hl => match us, hl with | [_, _], _ => rfl, fn_den (N := N__law_is_lot) F sc__law_is_lot fun cdv A outer s H E hr => ?_⟩
  have hN : N__law_is_lot.Nodup := sc__law_is_lot.nd
  have hp : PassesOwn (model P w) _ _ _ := passes_of (X := cxOf (L2N.CX P w) P w K mg base N__law_is_lot "_law_is_lot" (defScope s__law_is_lot) f cdv A outer s H E) rfl
  have tk : Den.Takes (cxOf (L2N.CX P w) P w K mg base N__law_is_lot "_law_is_lot" (defScope s__law_is_lot) f cdv A outer s H E) (wE E) := L2N.takes_of rfl rfl rfl rfl
  exact (ss_cons (ss_if (cNot (cTru (xIsi_tuple (xV 0) n_isinstance n_tuple))) (ss_one (sRet xB)) ss_nil) (ss_cons (sLet 2 [] hN (xNeg xI)) (ss_cons (sFor 3 hN hp rfl (jSeq (xV 0)) (ss_cons (ss_if (cBo (cOr (cNot (cTru (xCall c__law_is_integer tk (hr.mono (by omega)) (aCons (xV 3) aNil)))) (cOr (cLe (xV 3) (xV 2)) (cOr1 (cGe (xV 3) (xV 1)))))) (ss_one (sRet xB)) ss_nil) (ss_one (sLet 2 [] hN (xV 3))))) (ss_one (sRet xB)))))
def N_Table_width : List Str := ["self"]
theorem sc_Table_width : FnScope N_Table_width ["self"] (defScope s_Table_width) := ⟨rfl, rfl, rfl, by decide +kernel, rfl, by decide +kernel, by decide +kernel⟩
def den_Table_width : List D → M D := runF 1 1 (gRet (gFld "Table" "_width" (gVar 0)))
theorem ok_Table_width {f : Addr} {fd : FuncData} (F : FunD K "width" "Table.width" (defArgs s_Table_width) (defBody s_Table_width) (defScope s_Table_width) [] [] f fd) (fl_Table__width : Fld K "Table" "_width") :
    Binds K fd ["self"] [] ∧ FnOk P w K mg base (L2N.CX P w) 1 f fd ["self"] (spOf K den_Table_width) := by
  refine ⟨F.bindsN fun _ _ _ _ _ _ us hl => match us, hl with | [_], _ => rfl, fn_den (N := N_Table_width) F sc_Table_width fun cdv A outer s H E hr => ?_⟩
  have hN : N_Table_width.Nodup := sc_Table_width.nd
  have hp : PassesOwn (model P w) _ _ _ := passes_of (X := cxOf (L2N.CX P w) P w K mg base N_Table_width "Table.width" (defScope s_Table_width) f cdv A outer s H E) rfl
  have tk : Den.Takes (cxOf (L2N.CX P w) P w K mg base N_Table_width "Table.width" (defScope s_Table_width) f cdv A outer s H E) (wE E) := L2N.takes_of rfl rfl rfl rfl
  exact (ss_one (sRet (xFld fl_Table__width (xV 0))))
def N_is_unmade : List Str := ["table", "value"]
theorem sc_is_unmade : FnScope N_is_unmade ["table", "value"] (defScope s_is_unmade) := ⟨rfl, rfl, rfl, by decide +kernel, rfl, by decide +kernel, by decide +kernel⟩
def den_is_unmade : List D → M D := runF 2 2 (gRet (fAnd (fL den_is_lot (aC (gVar 1) (aC (gProp "Table" den_Table_width (gVar 0)) aN))) (f2 dInL (gVar 1) (fL den_unmade_rows (aC (gVar 0) aN)))))
theorem ok_is_unmade {f : Addr} {fd : FuncData} (F : FunD K "is_unmade" "is_unmade" (defArgs s_is_unmade) (defBody s_is_unmade) (defScope s_is_unmade) [] [] f fd) (gf : mg "is_unmade" = some (.ref f)) (c_is_lot : CalD P w K mg base 4 "is_lot" (defArgs s_is_lot) (defBody s_is_lot) (defScope s_is_lot) ["value", "below"] den_is_lot [.int 6]) (c_unmade_rows : Cal P w K mg base 9 "unmade_rows" (defArgs s_unmade_rows) (defBody s_unmade_rows) (defScope s_unmade_rows) ["table"] den_unmade_rows) (p_Table_width : Prp P w K mg base 1 "Table" "width" ["self"] den_Table_width) :
    Cal P w K mg base 10 "is_unmade" (defArgs s_is_unmade) (defBody s_is_unmade) (defScope s_is_unmade) ["table", "value"] den_is_unmade := by
  refine ⟨f, fd, gf, F, F.bindsN fun _ _ _ _ _ _ us hl => match us, hl with | [_, _], _ => rfl, fn_den (N := N_is_unmade) F sc_is_unmade fun cdv A outer s H E hr => ?_⟩
  have hN : N_is_unmade.Nodup := sc_is_unmade.nd
  have hp : PassesOwn (model P w) _ _ _ := passes_of (X := cxOf (L2N.CX P w) P w K mg base N_is_unmade "is_unmade" (defScope s_is_unmade) f cdv A outer s H E) rfl
  have tk : Den.Takes (cxOf (L2N.CX P w) P w K mg base N_is_unmade "is_unmade" (defScope s_is_unmade) f cdv A outer s H E) (wE E) := L2N.takes_of rfl rfl rfl rfl
  exact (ss_one (sRet (xAnd (xCallD c_is_lot tk (hr.mono (by omega)) (aCons (xV 1) (aCons (xProp p_Table_width (hr.mono (by omega)) (xV 0)) aNil))) (xOne (xInL hr (xV 1) (xCall c_unmade_rows tk (hr.mono (by omega)) (aCons (xV 0) aNil)))))))
def N_Table_rows : List Str := ["self", "row"]
theorem sc_Table_rows : FnScope N_Table_rows ["self"] (defScope s_Table_rows) := ⟨rfl, rfl, rfl, by decide +kernel, rfl, by decide +kernel, by decide +kernel⟩
def den_Table_rows : List D → M D := runF 1 2 (gRet (fNew (compV (eName 1) (iSeq (gFld "Table" "_cells" (gVar 0))) tYes (fNew (lG dList (aC (gVar 1) aN))))))
theorem ok_Table_rows {f : Addr} {fd : FuncData} (F : FunD K "rows" "Table.rows" (defArgs s_Table_rows) (defBody s_Table_rows) (defScope s_Table_rows) [] [] f fd) (fl_Table__cells : Fld K "Table" "_cells") (n_list : mg "list" = none) :
    Binds K fd ["self"] [] ∧ FnOk P w K mg base (L2N.CX P w) 1 f fd ["self"] (spOf K den_Table_rows) := by
  refine ⟨F.bindsN fun _ _ _ _ _ _ us hl => match us, hl with | [_], _ => rfl, fn_den (N := N_Table_rows) F sc_Table_rows fun cdv A outer s H E hr => ?_⟩
  have hN : N_Table_rows.Nodup := sc_Table_rows.nd
  have hp : PassesOwn (model P w) _ _ _ := passes_of (X := cxOf (L2N.CX P w) P w K mg base N_Table_rows "Table.rows" (defScope s_Table_rows) f cdv A outer s H E) rfl
  have tk : Den.Takes (cxOf (L2N.CX P w) P w K mg base N_Table_rows "Table.rows" (defScope s_Table_rows) f cdv A outer s H E) (wE E) := L2N.takes_of rfl rfl rfl rfl
  exact (ss_one (sRet (xNew (lLc 1 rfl hN (jSeq (xFld fl_Table__cells (xV 0))) (fun _ _ _ _ _ => cNone) (fun _ _ _ _ _ => (xNew (lList n_list (aCons (xV 1) aNil))))))))
def N__law_shows : List Str := ["value", "grid", "row", "cell"]
theorem sc__law_shows : FnScope N__law_shows ["value", "grid"] (defScope s__law_shows) := ⟨rfl, rfl, rfl, by decide +kernel, rfl, by decide +kernel, by decide +kernel⟩
def den__law_shows : List D → M D := runF 2 4 (gSeq (gIf (tNo (tT (gIsi (some "Table") [.own "Table"] (gVar 0)))) (gRet (fC (.bl false))) (fun ρ => pure (.nx ρ))) (gSeq (gIf (tNo (tT (fL (den__law_same 6) (aC (fNew (lDis (aC (gProp "Table" den_Table_height (gVar 0)) (aC (gProp "Table" den_Table_width (gVar 0)) aN)))) (aC (fNew (lDis (aC (f2 dIx (gVar 1) (fC (.int 1))) (aC (f2 dIx (gVar 1) (fC (.int 2))) aN)))) aN))))) (gRet (fC (.bl false))) (fun ρ => pure (.nx ρ))) (gRet (fL (den__law_same 6) (aC (gProp "Table" den_Table_rows (gVar 0)) (aC (fNew (compV (eName 2) (iSeq (f2 dIx (gVar 1) (fC (.int 3)))) tYes (fNew (compV (eName 3) (iSeq (gVar 2)) tYes (gVar 3))))) aN))))))
theorem ok__law_shows {f : Addr} {fd : FuncData} (F : FunD K "_law_shows" "_law_shows" (defArgs s__law_shows) (defBody s__law_shows) (defScope s__law_shows) [] [] f fd) (gf : mg "_law_shows" = some (.ref f)) (c__law_same : Cal P w K mg base 7 "_law_same" (defArgs s__law_same) (defBody s__law_same) (defScope s__law_same) ["value", "due"] (den__law_same 6)) (p_Table_height : Prp P w K mg base 1 "Table" "height" ["self"] den_Table_height) (p_Table_rows : Prp P w K mg base 1 "Table" "rows" ["self"] den_Table_rows) (p_Table_width : Prp P w K mg base 1 "Table" "width" ["self"] den_Table_width) (ic_Table : InstC K "Table") (g_Table : mg "Table" = some (.ref (He.ga K "Table"))) (n_isinstance : mg "isinstance" = none) :
    Cal P w K mg base 8 "_law_shows" (defArgs s__law_shows) (defBody s__law_shows) (defScope s__law_shows) ["value", "grid"] den__law_shows := by
  refine ⟨f, fd, gf, F, F.bindsN fun _ _ _ _ _ _ us hl => match us, hl with | [_, _], _ => rfl, fn_den (N := N__law_shows) F sc__law_shows fun cdv A outer s H E hr => ?_⟩
  have hN : N__law_shows.Nodup := sc__law_shows.nd
  have hp : PassesOwn (model P w) _ _ _ := passes_of (X := cxOf (L2N.CX P w) P w K mg base N__law_shows "_law_shows" (defScope s__law_shows) f cdv A outer s H E) rfl
  have tk : Den.Takes (cxOf (L2N.CX P w) P w K mg base N__law_shows "_law_shows" (defScope s__law_shows) f cdv A outer s H E) (wE E) := L2N.takes_of rfl rfl rfl rfl
  exact (ss_cons (ss_if (cNot (cTru (xIsiO ic_Table (xV 0) n_isinstance g_Table))) (ss_one (sRet xB)) ss_nil) (ss_cons (ss_if (cNot (cTru (xCall c__law_same tk (hr.mono (by omega)) (aCons (xNew (lLst (aCons (xProp p_Table_height (hr.mono (by omega)) (xV 0)) (aCons (xProp p_Table_width (hr.mono (by omega)) (xV 0)) aNil)))) (aCons (xNew (lLst (aCons (xIx (xV 1) xI) (aCons (xIx (xV 1) xI) aNil)))) aNil))))) (ss_one (sRet xB)) ss_nil) (ss_one (sRet (xCall c__law_same tk (hr.mono (by omega)) (aCons (xProp p_Table_rows (hr.mono (by omega)) (xV 0)) (aCons (xNew (lLc 2 rfl hN (jSeq (xIx (xV 1) xI)) (fun _ _ _ _ _ => cNone) (fun _ _ _ _ _ => (xNew (lLc 3 rfl hN (jSeq (xV 2)) (fun _ _ _ _ _ => cNone) (fun _ _ _ _ _ => (xV 3))))))) aNil)))))))
def N_law : List Str := ["script", "store", "grids", "made", "rows", "columns", "turn", "value", "k", "kept", "grid", "told", "due"]
theorem sc_law : FnScope N_law ["script"] (defScope s_law) := ⟨rfl, rfl, rfl, by decide +kernel, rfl, by decide +kernel, by decide +kernel⟩
def first_law : EV → M D := (fL den__law_store (aC (gVar 0) aN))
def rest_law : SV → M Fl := (gSeq (gAsg 2 [] (fNew (lDis (aC (fL den__law_world (aC (gVar 1) (aC (fC (.int 6)) (aC (fC (.int 6)) aN)))) (aC (fL den__law_world (aC (gVar 1) (aC (fC (.int 6)) (aC (fC (.int 6)) aN)))) aN))))) (gSeq (gAsg 3 [] (fNew (compV (eName 10) (iSeq (gVar 2)) tYes (fL den__law_table (aC (gVar 10) aN))))) (gSeq (gAsg 4 [] (fNew (compV (eName 10) (iSeq (gVar 2)) tYes (fL den__law_unmade_joins (aC (gVar 10) aN))))) (gSeq (gAsg 5 [] (fNew (compV (eName 10) (iSeq (gVar 2)) tYes (fL den__law_unmade_joins (aC (fL den__law_turn (aC (gVar 10) aN)) aN))))) (gSeq (gFor (iRan 1 (aC (fC (.int 2)) aN)) (bName 6) (gFor (iRan 1 (aC (fC (.int 2)) aN)) (bName 8) (gSeq (gNew 11 [] (lG denf_unmade_rows (aC (f2 dIx (gVar 3) (gVar 8)) aN))) (gSeq (gIf (t2 dEq (gVar 6) (fC (.int 1))) (gNew 11 [] (lGK denf_unmade_rows (aC (f2 dIx (gVar 3) (gVar 8)) aN) 1 [0])) (fun ρ => pure (.nx ρ))) (gSeq (gIf (tNo (tT (fL (den__law_same 6) (aC (gVar 11) (aC (f2 dIx (gVar 4) (gVar 8)) aN))))) (gRet (fC (.bl false))) (fun ρ => pure (.nx ρ))) (gSeq (gApp 11 [] (fTup (aC (fC (.int 0)) (aC (fC (.int 1)) (aC (fC (.int 2)) (aC (fC (.int 3)) (aC (fC (.int 4)) (aC (fC (.int 5)) aN)))))))) (gSeq (gOwn 11 List.reverse) (gSeq (gNew 11 [] (lG denf_unmade_columns (aC (f2 dIx (gVar 3) (gVar 8)) aN))) (gSeq (gIf (tNo (tT (fL (den__law_same 6) (aC (gVar 11) (aC (f2 dIx (gVar 5) (gVar 8)) aN))))) (gRet (fC (.bl false))) (fun ρ => pure (.nx ρ))) (gOwn 11 fun _ => [])))))))))) (gSeq (gFor (iSeq (fL den__law_values (aC (gVar 1) (aC (gVar 2) (aC (gVar 4) aN))))) (bName 7) (gSeq (gAsg 9 [] (fL (den__law_bare 6) (aC (gVar 7) aN))) (gSeq (gFor (iRan 1 (aC (fC (.int 2)) aN)) (bName 8) (gSeq (gAsg 12 [] (fAnd (fL den__law_is_lot (aC (gVar 7) (aC (f2 dIx (f2 dIx (gVar 2) (gVar 8)) (fC (.int 2))) aN))) (f2 dInL (gVar 7) (f2 dIx (gVar 4) (gVar 8))))) (gIf (tNo (tT (fL (den__law_same 6) (aC (fL den_is_unmade (aC (f2 dIx (gVar 3) (gVar 8)) (aC (gVar 7) aN))) (aC (gVar 12) aN))))) (gRet (fC (.bl false))) (fun ρ => pure (.nx ρ))))) (gIf (t2 dNe (gVar 9) (gVar 7)) (gRet (fC (.bl false))) (fun ρ => pure (.nx ρ)))))) (gRet (fL dAll (aC (fNew (compV (eName 8) (iRan 1 (aC (fC (.int 2)) aN)) tYes (fL den__law_shows (aC (f2 dIx (gVar 3) (gVar 8)) (aC (f2 dIx (gVar 2) (gVar 8)) aN))))) aN)))))))))
theorem ok_law {f : Addr} {fd : FuncData} (F : FunD K "law" "law" (defArgs s_law) (defBody s_law) (defScope s_law) [] [] f fd) (c__law_bare : Cal P w K mg base 7 "_law_bare" (defArgs s__law_bare) (defBody s__law_bare) (defScope s__law_bare) ["value"] (den__law_bare 6)) (c__law_is_lot : Cal P w K mg base 2 "_law_is_lot" (defArgs s__law_is_lot) (defBody s__law_is_lot) (defScope s__law_is_lot) ["value", "limit"] den__law_is_lot) (c__law_same : Cal P w K mg base 7 "_law_same" (defArgs s__law_same) (defBody s__law_same) (defScope s__law_same) ["value", "due"] (den__law_same 6)) (c__law_shows : Cal P w K mg base 8 "_law_shows" (defArgs s__law_shows) (defBody s__law_shows) (defScope s__law_shows) ["value", "grid"] den__law_shows) (c__law_store : Cal P w K mg base 1 "_law_store" (defArgs s__law_store) (defBody s__law_store) (defScope s__law_store) ["script"] den__law_store) (c__law_table : Cal P w K mg base 6 "_law_table" (defArgs s__law_table) (defBody s__law_table) (defScope s__law_table) ["grid"] den__law_table) (c__law_turn : Cal P w K mg base 1 "_law_turn" (defArgs s__law_turn) (defBody s__law_turn) (defScope s__law_turn) ["grid"] den__law_turn) (c__law_unmade_joins : Cal P w K mg base 3 "_law_unmade_joins" (defArgs s__law_unmade_joins) (defBody s__law_unmade_joins) (defScope s__law_unmade_joins) ["grid"] den__law_unmade_joins) (c__law_values : Cal P w K mg base 5 "_law_values" (defArgs s__law_values) (defBody s__law_values) (defScope s__law_values) ["store", "grids", "rows"] den__law_values) (c__law_world : Cal P w K mg base 6 "_law_world" (defArgs s__law_world) (defBody s__law_world) (defScope s__law_world) ["store", "most_high", "most_wide"] den__law_world) (c_is_unmade : Cal P w K mg base 10 "is_unmade" (defArgs s_is_unmade) (defBody s_is_unmade) (defScope s_is_unmade) ["table", "value"] den_is_unmade) (cf_unmade_columns : CalF P w K mg base 10 "unmade_columns" (defArgs s_unmade_columns) (defBody s_unmade_columns) (defScope s_unmade_columns) ["table"] denf_unmade_columns) (cf_unmade_rows : CalF P w K mg base 9 "unmade_rows" (defArgs s_unmade_rows) (defBody s_unmade_rows) (defScope s_unmade_rows) ["table"] denf_unmade_rows) (n_all : mg "all" = none) (n_range : mg "range" = none) (hst : ∀ (ns : List Int) (m : SM), ns.length ≤ 63 → first_law (ev0 N_law.length ns) m = .ok (.lst (.lst (ns.map .int) :: [0, 0, 0, 0, 314159265358, 0].map .int)) m)
    (hG : ∀ ns : List Int, ns.length ≤ 63 → ∃ m', rest_law (sv0 N_law.length 1 ns) ⟨ns, [0, 0, 0, 0, 314159265358, 0]⟩ = .ok (.rt (.bl true)) m') : FnOk P w K mg base (L2N.CX P w) 11 f fd ["script"] (spLaw K) :=
  fn_law (N := N_law) (k := 10) (i := 1) (G0 := first_law) (G := rest_law) (cs := fun ns => ns) (xs := [0, 0, 0, 0, 314159265358, 0]) F sc_law rfl (by decide) (by decide) (fun cdv A outer s H E hr => by
    have hN : N_law.Nodup := sc_law.nd
    have hp : PassesOwn (model P w) _ _ _ := passes_of (X := cxOf (L2N.CX P w) P w K mg base N_law "law" (defScope s_law) f cdv A outer s H E) rfl
    have tk : Den.Takes (cxOf (L2N.CX P w) P w K mg base N_law "law" (defScope s_law) f cdv A outer s H E) (wE E) := L2N.takes_of rfl rfl rfl rfl
    exact ps_set (i := 1) hN rfl (by first | exact Or.inl rfl | exact Or.inr rfl) (show SE _ (wE E) _ first_law from (xCall c__law_store tk (hr.mono (by omega)) (aCons (xV 0) aNil))).pe)
    (fun cdv A outer s H E hr => by
    have hN : N_law.Nodup := sc_law.nd
    have hp : PassesOwn (model P w) _ _ _ := passes_of (X := cxOf (L2N.CX P w) P w K mg base N_law "law" (defScope s_law) f cdv A outer s H E) rfl
    have tk : Den.Takes (cxOf (L2N.CX P w) P w K mg base N_law "law" (defScope s_law) f cdv A outer s H E) (wE E) := L2N.takes_of rfl rfl rfl rfl
    exact (ss_cons (sLet 2 [] hN (xNew (lLst (aCons (xCall c__law_world tk (hr.mono (by omega)) (aCons (xV 1) (aCons xI (aCons xI aNil)))) (aCons (xCall c__law_world tk (hr.mono (by omega)) (aCons (xV 1) (aCons xI (aCons xI aNil)))) aNil))))) (ss_cons (sLet 3 [] hN (xNew (lLc 10 rfl hN (jSeq (xV 2)) (fun _ _ _ _ _ => cNone) (fun _ _ _ _ _ => (xCall c__law_table tk0 (hr.mono (by omega)) (aCons (xV 10) aNil)))))) (ss_cons (sLetLc [] (sLc (W := wE E) 4 10 [] rfl hN (jSeq (xV 2)) (fun _ _ _ _ _ => cNone) (fun _ _ _ _ _ => (xCall c__law_unmade_joins tk0 (hr.mono (by omega)) (aCons (xV 10) aNil))))) (ss_cons (sLetLc [] (sLc (W := wE E) 5 10 [] rfl hN (jSeq (xV 2)) (fun _ _ _ _ _ => cNone) (fun _ _ _ _ _ => (xCall c__law_unmade_joins tk0 (hr.mono (by omega)) (aCons (xCall c__law_turn tk0 (hr.mono (by omega)) (aCons (xV 10) aNil)) aNil))))) (ss_cons (sFor 6 hN hp rfl (jR1 n_range (aCons xI aNil)) (ss_one (sFor 8 hN hp rfl (jR1 n_range (aCons xI aNil)) (ss_cons (sOwn 11 [] hN (lCall cf_unmade_rows tk (hr.mono (by omega)) (aCons (xIx (xV 3) (xV 8)) aNil))) (ss_cons (ss_if (cEq hr (xV 6) xI) (ss_one (sOwn 11 [] hN (lCallK cf_unmade_rows ["table"] [0] (by exact fun _ _ _ _ _ _ us ws h1 h2 => match us, ws, h1, h2 with | [], [_], _, _ => rfl) tk (hr.mono (by omega)) (kCons (xIx (xV 3) (xV 8)) kNil)))) ss_nil) (ss_cons (ss_if (cNot (cTru (xCall c__law_same tk (hr.mono (by omega)) (aCons (xV 11) (aCons (xIx (xV 4) (xV 8)) aNil))))) (ss_one (sRet xB)) ss_nil) (ss_cons (sApp 11 [] (xTup (aCons xI (aCons xI (aCons xI (aCons xI (aCons xI (aCons xI aNil)))))))) (ss_cons (sRev 11) (ss_cons (sOwn 11 [] hN (lCall cf_unmade_columns tk (hr.mono (by omega)) (aCons (xIx (xV 3) (xV 8)) aNil))) (ss_cons (ss_if (cNot (cTru (xCall c__law_same tk (hr.mono (by omega)) (aCons (xV 11) (aCons (xIx (xV 5) (xV 8)) aNil))))) (ss_one (sRet xB)) ss_nil) (ss_one (sClr 11)))))))))))) (ss_cons (sFor 7 hN hp rfl (jSeq (xCall c__law_values tk (hr.mono (by omega)) (aCons (xV 1) (aCons (xV 2) (aCons (xV 4) aNil))))) (ss_cons (sLet 9 [] hN (xCall c__law_bare tk (hr.mono (by omega)) (aCons (xV 7) aNil))) (ss_cons (sFor 8 hN hp rfl (jR1 n_range (aCons xI aNil)) (ss_cons (sLet 12 [] hN (xAnd (xCall c__law_is_lot tk (hr.mono (by omega)) (aCons (xV 7) (aCons (xIx (xIx (xV 2) (xV 8)) xI) aNil))) (xOne (xInL hr (xV 7) (xIx (xV 4) (xV 8)))))) (ss_one (ss_if (cNot (cTru (xCall c__law_same tk (hr.mono (by omega)) (aCons (xCall c_is_unmade tk (hr.mono (by omega)) (aCons (xIx (xV 3) (xV 8)) (aCons (xV 7) aNil))) (aCons (xV 12) aNil))))) (ss_one (sRet xB)) ss_nil)))) (ss_one (ss_if (cNe hr (xV 9) (xV 7)) (ss_one (sRet xB)) ss_nil))))) (ss_one (sRet (xAll rfl n_all (aCons (xNew (lLc 8 rfl hN (jR1 n_range (aCons xI aNil)) (fun _ _ _ _ _ => cNone) (fun _ _ _ _ _ => (xCall c__law_shows tk0 (hr.mono (by omega)) (aCons (xIx (xV 3) (xV 8)) (aCons (xIx (xV 2) (xV 8)) aNil)))))) aNil))))))))))) hst hG
end
end Hd
set_option Elab.async false
set_option linter.all false
set_option maxRecDepth 100000
set_option maxHeartbeats 0
namespace Hd
open PySem PySem.Spec PyProof.Rows L2 Den
def d__law_store : He.DefD := { at_ := ("_law_store", none), name := "_law_store", qual := "_law_store", params := defArgs s__law_store, body := defBody s__law_store, scope := defScope s__law_store, dfl := [] }
def d__law_mix : He.DefD := { at_ := ("_law_mix", none), name := "_law_mix", qual := "_law_mix", params := defArgs s__law_mix, body := defBody s__law_mix, scope := defScope s__law_mix, dfl := [] }
def d__law_take : He.DefD := { at_ := ("_law_take", none), name := "_law_take", qual := "_law_take", params := defArgs s__law_take, body := defBody s__law_take, scope := defScope s__law_take, dfl := [] }
def d__law_side : He.DefD := { at_ := ("_law_side", none), name := "_law_side", qual := "_law_side", params := defArgs s__law_side, body := defBody s__law_side, scope := defScope s__law_side, dfl := [] }
def d__law_sizes : He.DefD := { at_ := ("_law_sizes", none), name := "_law_sizes", qual := "_law_sizes", params := defArgs s__law_sizes, body := defBody s__law_sizes, scope := defScope s__law_sizes, dfl := [] }
def d__law_turn : He.DefD := { at_ := ("_law_turn", none), name := "_law_turn", qual := "_law_turn", params := defArgs s__law_turn, body := defBody s__law_turn, scope := defScope s__law_turn, dfl := [] }
def d__law_lot : He.DefD := { at_ := ("_law_lot", none), name := "_law_lot", qual := "_law_lot", params := defArgs s__law_lot, body := defBody s__law_lot, scope := defScope s__law_lot, dfl := [] }
def d__law_pick : He.DefD := { at_ := ("_law_pick", none), name := "_law_pick", qual := "_law_pick", params := defArgs s__law_pick, body := defBody s__law_pick, scope := defScope s__law_pick, dfl := [] }
def d__law_join : He.DefD := { at_ := ("_law_join", none), name := "_law_join", qual := "_law_join", params := defArgs s__law_join, body := defBody s__law_join, scope := defScope s__law_join, dfl := [] }
def d__law_of : He.DefD := { at_ := ("_law_of", none), name := "_law_of", qual := "_law_of", params := defArgs s__law_of, body := defBody s__law_of, scope := defScope s__law_of, dfl := [] }
def d__law_twin : He.DefD := { at_ := ("_law_twin", none), name := "_law_twin", qual := "_law_twin", params := defArgs s__law_twin, body := defBody s__law_twin, scope := defScope s__law_twin, dfl := [] }
def d__law_shuffle : He.DefD := { at_ := ("_law_shuffle", none), name := "_law_shuffle", qual := "_law_shuffle", params := defArgs s__law_shuffle, body := defBody s__law_shuffle, scope := defScope s__law_shuffle, dfl := [] }
def d__law_placing : He.DefD := { at_ := ("_law_placing", none), name := "_law_placing", qual := "_law_placing", params := defArgs s__law_placing, body := defBody s__law_placing, scope := defScope s__law_placing, dfl := [] }
def d__law_free : He.DefD := { at_ := ("_law_free", none), name := "_law_free", qual := "_law_free", params := defArgs s__law_free, body := defBody s__law_free, scope := defScope s__law_free, dfl := [] }
def d__law_some_grid : He.DefD := { at_ := ("_law_some_grid", none), name := "_law_some_grid", qual := "_law_some_grid", params := defArgs s__law_some_grid, body := defBody s__law_some_grid, scope := defScope s__law_some_grid, dfl := [] }
def d__law_world : He.DefD := { at_ := ("_law_world", none), name := "_law_world", qual := "_law_world", params := defArgs s__law_world, body := defBody s__law_world, scope := defScope s__law_world, dfl := [] }
def d__is_short : He.DefD := { at_ := ("_is_short", none), name := "_is_short", qual := "_is_short", params := defArgs s__is_short, body := defBody s__is_short, scope := defScope s__is_short, dfl := [] }
def d_is_number : He.DefD := { at_ := ("is_number", none), name := "is_number", qual := "is_number", params := defArgs s_is_number, body := defBody s_is_number, scope := defScope s_is_number, dfl := [] }
def d__width_of : He.DefD := { at_ := ("_width_of", none), name := "_width_of", qual := "_width_of", params := defArgs s__width_of, body := defBody s__width_of, scope := defScope s__width_of, dfl := [] }
def d__is_row : He.DefD := { at_ := ("_is_row", none), name := "_is_row", qual := "_is_row", params := defArgs s__is_row, body := defBody s__is_row, scope := defScope s__is_row, dfl := [] }
def d_Table_init : He.DefD := { at_ := ("Table", some "__init__"), name := "__init__", qual := "Table.__init__", params := defArgs s_Table_init, body := defBody s_Table_init, scope := defScope s_Table_init, dfl := [], kwd := [("width", .non)] }
def d__law_table : He.DefD := { at_ := ("_law_table", none), name := "_law_table", qual := "_law_table", params := defArgs s__law_table, body := defBody s__law_table, scope := defScope s__law_table, dfl := [] }
def d__law_lots : He.DefD := { at_ := ("_law_lots", none), name := "_law_lots", qual := "_law_lots", params := defArgs s__law_lots, body := defBody s__law_lots, scope := defScope s__law_lots, dfl := [] }
def d__law_ranked : He.DefD := { at_ := ("_law_ranked", none), name := "_law_ranked", qual := "_law_ranked", params := defArgs s__law_ranked, body := defBody s__law_ranked, scope := defScope s__law_ranked, dfl := [] }
def d__law_joined : He.DefD := { at_ := ("_law_joined", none), name := "_law_joined", qual := "_law_joined", params := defArgs s__law_joined, body := defBody s__law_joined, scope := defScope s__law_joined, dfl := [] }
def d__law_within : He.DefD := { at_ := ("_law_within", none), name := "_law_within", qual := "_law_within", params := defArgs s__law_within, body := defBody s__law_within, scope := defScope s__law_within, dfl := [] }
def d__law_unmade_joins : He.DefD := { at_ := ("_law_unmade_joins", none), name := "_law_unmade_joins", qual := "_law_unmade_joins", params := defArgs s__law_unmade_joins, body := defBody s__law_unmade_joins, scope := defScope s__law_unmade_joins, dfl := [] }
def d_check_number : He.DefD := { at_ := ("check_number", none), name := "check_number", qual := "check_number", params := defArgs s_check_number, body := defBody s_check_number, scope := defScope s_check_number, dfl := [] }
def d__is_ascending : He.DefD := { at_ := ("_is_ascending", none), name := "_is_ascending", qual := "_is_ascending", params := defArgs s__is_ascending, body := defBody s__is_ascending, scope := defScope s__is_ascending, dfl := [] }
def d_is_lot : He.DefD := { at_ := ("is_lot", none), name := "is_lot", qual := "is_lot", params := defArgs s_is_lot, body := defBody s_is_lot, scope := defScope s_is_lot, dfl := [.int 6] }
def d_check_lot : He.DefD := { at_ := ("check_lot", none), name := "check_lot", qual := "check_lot", params := defArgs s_check_lot, body := defBody s_check_lot, scope := defScope s_check_lot, dfl := [] }
def d__check_lots : He.DefD := { at_ := ("_check_lots", none), name := "_check_lots", qual := "_check_lots", params := defArgs s__check_lots, body := defBody s__check_lots, scope := defScope s__check_lots, dfl := [] }
def d_sorted_lots : He.DefD := { at_ := ("sorted_lots", none), name := "sorted_lots", qual := "sorted_lots", params := defArgs s_sorted_lots, body := defBody s_sorted_lots, scope := defScope s_sorted_lots, dfl := [] }
def d__lot_of_cells : He.DefD := { at_ := ("_lot_of_cells", none), name := "_lot_of_cells", qual := "_lot_of_cells", params := defArgs s__lot_of_cells, body := defBody s__lot_of_cells, scope := defScope s__lot_of_cells, dfl := [] }
def d_Table_row_lots : He.DefD := { at_ := ("Table", some "row_lots"), name := "row_lots", qual := "Table.row_lots", params := defArgs s_Table_row_lots, body := defBody s_Table_row_lots, scope := defScope s_Table_row_lots, dfl := [] }
def d_lot_of : He.DefD := { at_ := ("lot_of", none), name := "lot_of", qual := "lot_of", params := defArgs s_lot_of, body := defBody s_lot_of, scope := defScope s_lot_of, dfl := [], kwd := [("below", .int (6))] }
def d_join_all : He.DefD := { at_ := ("join_all", none), name := "join_all", qual := "join_all", params := defArgs s_join_all, body := defBody s_join_all, scope := defScope s_join_all, dfl := [] }
def d__has_all : He.DefD := { at_ := ("_has_all", none), name := "_has_all", qual := "_has_all", params := defArgs s__has_all, body := defBody s__has_all, scope := defScope s__has_all, dfl := [] }
def d_holds : He.DefD := { at_ := ("holds", none), name := "holds", qual := "holds", params := defArgs s_holds, body := defBody s_holds, scope := defScope s_holds, dfl := [] }
def d__join_of_lower : He.DefD := { at_ := ("_join_of_lower", none), name := "_join_of_lower", qual := "_join_of_lower", params := defArgs s__join_of_lower, body := defBody s__join_of_lower, scope := defScope s__join_of_lower, dfl := [] }
def d_unmade_rows : He.DefD := { at_ := ("unmade_rows", none), name := "unmade_rows", qual := "unmade_rows", params := defArgs s_unmade_rows, body := defBody s_unmade_rows, scope := defScope s_unmade_rows, dfl := [] }
def d__law_same : He.DefD := { at_ := ("_law_same", none), name := "_law_same", qual := "_law_same", params := defArgs s__law_same, body := defBody s__law_same, scope := defScope s__law_same, dfl := [] }
def d_Table_columns : He.DefD := { at_ := ("Table", some "columns"), name := "columns", qual := "Table.columns", params := defArgs s_Table_columns, body := defBody s_Table_columns, scope := defScope s_Table_columns, dfl := [] }
def d_Table_height : He.DefD := { at_ := ("Table", some "height"), name := "height", qual := "Table.height", params := defArgs s_Table_height, body := defBody s_Table_height, scope := defScope s_Table_height, dfl := [] }
def d_turned : He.DefD := { at_ := ("turned", none), name := "turned", qual := "turned", params := defArgs s_turned, body := defBody s_turned, scope := defScope s_turned, dfl := [] }
def d_unmade_columns : He.DefD := { at_ := ("unmade_columns", none), name := "unmade_columns", qual := "unmade_columns", params := defArgs s_unmade_columns, body := defBody s_unmade_columns, scope := defScope s_unmade_columns, dfl := [] }
def d__law_near_lot : He.DefD := { at_ := ("_law_near_lot", none), name := "_law_near_lot", qual := "_law_near_lot", params := defArgs s__law_near_lot, body := defBody s__law_near_lot, scope := defScope s__law_near_lot, dfl := [] }
def d__law_alike : He.DefD := { at_ := ("_law_alike", none), name := "_law_alike", qual := "_law_alike", params := defArgs s__law_alike, body := defBody s__law_alike, scope := defScope s__law_alike, dfl := [] }
def d__law_values : He.DefD := { at_ := ("_law_values", none), name := "_law_values", qual := "_law_values", params := defArgs s__law_values, body := defBody s__law_values, scope := defScope s__law_values, dfl := [] }
def d__law_bare : He.DefD := { at_ := ("_law_bare", none), name := "_law_bare", qual := "_law_bare", params := defArgs s__law_bare, body := defBody s__law_bare, scope := defScope s__law_bare, dfl := [] }
def d__law_is_integer : He.DefD := { at_ := ("_law_is_integer", none), name := "_law_is_integer", qual := "_law_is_integer", params := defArgs s__law_is_integer, body := defBody s__law_is_integer, scope := defScope s__law_is_integer, dfl := [] }
def d__law_is_lot : He.DefD := { at_ := ("_law_is_lot", none), name := "_law_is_lot", qual := "_law_is_lot", params := defArgs s__law_is_lot, body := defBody s__law_is_lot, scope := defScope s__law_is_lot, dfl := [] }
def d_Table_width : He.DefD := { at_ := ("Table", some "width"), name := "width", qual := "Table.width", params := defArgs s_Table_width, body := defBody s_Table_width, scope := defScope s_Table_width, dfl := [] }
def d_is_unmade : He.DefD := { at_ := ("is_unmade", none), name := "is_unmade", qual := "is_unmade", params := defArgs s_is_unmade, body := defBody s_is_unmade, scope := defScope s_is_unmade, dfl := [] }
def d_Table_rows : He.DefD := { at_ := ("Table", some "rows"), name := "rows", qual := "Table.rows", params := defArgs s_Table_rows, body := defBody s_Table_rows, scope := defScope s_Table_rows, dfl := [] }
def d__law_shows : He.DefD := { at_ := ("_law_shows", none), name := "_law_shows", qual := "_law_shows", params := defArgs s__law_shows, body := defBody s__law_shows, scope := defScope s__law_shows, dfl := [] }
def d_law : He.DefD := { at_ := ("law", none), name := "law", qual := "law", params := defArgs s_law, body := defBody s_law, scope := defScope s_law, dfl := [] }
abbrev s_BadLot_init : Stmt := inClass (top 5) 0
def d_BadLot_init : He.DefD := { at_ := ("BadLot", some "__init__"), name := "__init__", qual := "BadLot.__init__", params := defArgs s_BadLot_init, body := defBody s_BadLot_init, scope := defScope s_BadLot_init, dfl := [] }
abbrev s_BadPlace_init : Stmt := inClass (top 4) 0
def d_BadPlace_init : He.DefD := { at_ := ("BadPlace", some "__init__"), name := "__init__", qual := "BadPlace.__init__", params := defArgs s_BadPlace_init, body := defBody s_BadPlace_init, scope := defScope s_BadPlace_init, dfl := [] }
abbrev s_BadTable_init : Stmt := inClass (top 3) 0
def d_BadTable_init : He.DefD := { at_ := ("BadTable", some "__init__"), name := "__init__", qual := "BadTable.__init__", params := defArgs s_BadTable_init, body := defBody s_BadTable_init, scope := defScope s_BadTable_init, dfl := [] }
def fa : List He.Fa := [.glo "_law_store", .free "int", .glo "_law_mix", .glo "_law_take", .free "len", .glo "_law_side", .free "min", .glo "_law_sizes", .glo "_law_turn", .free "range", .free "tuple", .glo "_law_lot", .glo "_law_pick", .glo "_law_join", .free "any", .glo "_law_of", .glo "_law_twin", .glo "_law_shuffle", .glo "_law_placing", .glo "_law_free", .glo "_law_some_grid", .free "max", .glo "_law_world", .glo "_is_short", .free "isinstance", .free "list", .int "SIDE" 6, .glo "is_number", .free "bool", .glo "_width_of", .glo "_is_row", .free "all", .cls "Table", .noat "Table" "_cells", .noat "Table" "_width", .free "enumerate", .glo "_law_table", .glo "Table", .mkr "Table", .glo "_law_lots", .glo "_law_ranked", .free "sorted", .glo "_law_joined", .glo "_law_within", .glo "_law_unmade_joins", .glo "check_number", .glo "_is_ascending", .glo "is_lot", .glo "check_lot", .glo "_check_lots", .glo "sorted_lots", .free "set", .glo "_lot_of_cells", .glo "lot_of", .glo "join_all", .glo "_has_all", .glo "holds", .glo "_join_of_lower", .glo "unmade_rows", .glo "_law_same", .free "str", .glo "turned", .glo "unmade_columns", .glo "_law_near_lot", .glo "_law_alike", .glo "_law_values", .glo "_law_bare", .glo "_law_is_integer", .glo "_law_is_lot", .glo "is_unmade", .glo "_law_shows", .glo "law", .glo "BadLot", .noat "BadLot" "lot", .glo "BadPlace", .noat "BadPlace" "place", .glo "BadTable", .noat "BadTable" "row"]
def fx : List Fx := [.prop "Table" "row_lots", .prop "Table" "columns", .prop "Table" "height", .inst "Table", .prop "Table" "width", .prop "Table" "rows", .exn "BadLot", .exn "BadPlace", .exn "BadTable"]
def fn : List He.DefD := [d__law_store, d__law_mix, d__law_take, d__law_side, d__law_sizes, d__law_turn, d__law_lot, d__law_pick, d__law_join, d__law_of, d__law_twin, d__law_shuffle, d__law_placing, d__law_free, d__law_some_grid, d__law_world, d__is_short, d_is_number, d__width_of, d__is_row, d_Table_init, d__law_table, d__law_lots, d__law_ranked, d__law_joined, d__law_within, d__law_unmade_joins, d_check_number, d__is_ascending, d_is_lot, d_check_lot, d__check_lots, d_sorted_lots, d__lot_of_cells, d_lot_of, d_join_all, d__has_all, d_holds, d__join_of_lower, d_unmade_rows, d__law_same, d_turned, d_unmade_columns, d__law_near_lot, d__law_alike, d__law_values, d__law_bare, d__law_is_integer, d__law_is_lot, d_is_unmade, d__law_shows, d_law, d_BadLot_init, d_BadPlace_init, d_BadTable_init]
def fg : List GetD := [("Table", "row_lots", d_Table_row_lots), ("Table", "columns", d_Table_columns), ("Table", "height", d_Table_height), ("Table", "width", d_Table_width), ("Table", "rows", d_Table_rows)]
abbrev R : PySem.W.OpenRow := PySem.W.OpenLaw.row PySem.Challenge.rw_greatestback_k23_unmade_rows
def ats : List Addr := [3, 31, 51, 70, 89, 117, 124, 139, 146, 153, 160, 166, 171, 178, 183, 190, 216, 221, 228, 233, 396, 407, 412, 417, 424, 431, 436, 443, 450, 457, 462, 469, 474, 479, 484, 489, 496, 501, 506, 511, 516, 521, 526, 531, 536, 541, 548, 555, 560, 565, 570, 575, 580, 585, 590, 597, 602, 30, 50, 69, 88, 116, 123, 138, 132, 145, 152, 159, 165, 161, 170, 177, 182, 189, 215, 220, 227, 232, 395, 406, 411, 416, 423, 430, 435, 442, 449, 456, 461, 468, 473, 478, 483, 488, 495, 500, 505, 510, 515, 520, 525, 530, 535, 540, 547, 554, 559, 564, 569, 574, 579, 584, 589, 596, 601, 48, 67, 86, 251, 290, 298, 320, 326, 332, 47, 66, 85, 250, 246, 289, 297, 319, 325, 331, 288, 296, 318, 324, 330]
abbrev hk : PySem.W.Hook := hookL ats fa fx fn fg
end Hd
set_option Elab.async false
set_option linter.all false
set_option maxRecDepth 100000
set_option maxHeartbeats 0
namespace Hd
open PySem PySem.Spec PyProof.Rows L2 Den
abbrev hg : PySem.W.Hook := hookG ats fa fx fn fg
def ob (s : PySem.W.SharedT) : AlX := obsX fa fx fn fg (He.frG (HandSHeadRun.getT s) ats)
theorem ob_eq (s : PySem.W.SharedT) : ob s = hg.obs s.abs := by
  have e : HandSHeadRun.getT s = s.abs.heap.get? := funext (HandSHeadRun.getT_eq s)
  show obsX fa fx fn fg (He.frG (HandSHeadRun.getT s) ats) = obsX fa fx fn fg (He.frG s.abs.heap.get? ats)
  rw [e]
def loose : List Str := (["_wall", "__name__", "GreatestbackError", "BadTable", "BadPlace", "BadLot", "UnlikeSizes", "is_number", "check_number", "is_number_pair", "SIDE", "is_lot", "_is_ascending", "check_lot", "_check_lots", "lot_of", "join_all", "holds", "_has_all", "sorted_lots", "row_line", "check_behind", "check_same_size", "_is_short", "_is_row", "_width_of", "_lot_of_cells", "_have_middle", "Table", "turned"] : List Str) ++ (["unmade_rows", "_join_of_lower", "unmade_columns", "is_unmade", "_law_store", "_law_mix", "_law_take", "_law_pick", "_law_shuffle", "_law_is_integer", "_law_same", "_law_bare", "_law_lot", "_law_near_lot", "_law_is_lot", "_law_ranked", "_law_join", "_law_within", "_law_placing", "_law_of", "_law_lots", "_law_turn", "_law_table", "_law_shows", "_law_side", "_law_sizes", "_law_free", "_law_twin", "_law_joined", "_law_some_grid"] : List Str) ++ (["_law_world", "_law_unmade_joins", "_law_alike", "_law_values"] : List Str)
theorem run (w : World) : HandSHeadRun.RunEq R (PySem.W.view R.prog [70]) hg ob 9000 loose w := by
  intro os
  kernel_rfl
end Hd
set_option Elab.async false
set_option linter.all false
set_option maxRecDepth 100000
set_option maxHeartbeats 0
namespace Hd
open PySem PySem.Spec PyProof.Rows L2 Den
section
theorem facts {P : Program} {w : World} {K : PySem.W.Frag} {h : Heap} {mg : Str → Option Value} {f : Addr} (X : K.In h) (G : h.Ns mainGlobals mg) (hfa : mg ("law" : Str) = some (.ref f)) (c : SaysX fa fx fn fg K)
    (hst : ∀ (ns : List Int) (m : SM), ns.length ≤ 63 → first_law (ev0 N_law.length ns) m = .ok (.lst (.lst (ns.map .int) :: [0, 0, 0, 0, 314159265358, 0].map .int)) m)
    (hG : ∀ ns : List Int, ns.length ≤ 63 → ∃ m', rest_law (sv0 N_law.length 1 ns) ⟨ns, [0, 0, 0, 0, 314159265358, 0]⟩ = .ok (.rt (.bl true)) m') :
    ∃ fd : FuncData, (∀ (s : Shared) (v : Value), BindsTo s fd ⟨[v], []⟩ [("script", v)]) ∧ ∀ base : Heap, K.In base → base.Ns mainGlobals mg → FnOk P w K mg base (L2N.CX P w) 11 f fd ["script"] (spLaw K) := by
  obtain ⟨fd__law_store, F__law_store⟩ := c.def_ 0 (d := d__law_store) rfl
  obtain ⟨fd__law_mix, F__law_mix⟩ := c.def_ 1 (d := d__law_mix) rfl
  obtain ⟨fd__law_take, F__law_take⟩ := c.def_ 2 (d := d__law_take) rfl
  obtain ⟨fd__law_side, F__law_side⟩ := c.def_ 3 (d := d__law_side) rfl
  obtain ⟨fd__law_sizes, F__law_sizes⟩ := c.def_ 4 (d := d__law_sizes) rfl
  obtain ⟨fd__law_turn, F__law_turn⟩ := c.def_ 5 (d := d__law_turn) rfl
  obtain ⟨fd__law_lot, F__law_lot⟩ := c.def_ 6 (d := d__law_lot) rfl
  obtain ⟨fd__law_pick, F__law_pick⟩ := c.def_ 7 (d := d__law_pick) rfl
  obtain ⟨fd__law_join, F__law_join⟩ := c.def_ 8 (d := d__law_join) rfl
  obtain ⟨fd__law_of, F__law_of⟩ := c.def_ 9 (d := d__law_of) rfl
  obtain ⟨fd__law_twin, F__law_twin⟩ := c.def_ 10 (d := d__law_twin) rfl
  obtain ⟨fd__law_shuffle, F__law_shuffle⟩ := c.def_ 11 (d := d__law_shuffle) rfl
  obtain ⟨fd__law_placing, F__law_placing⟩ := c.def_ 12 (d := d__law_placing) rfl
  obtain ⟨fd__law_free, F__law_free⟩ := c.def_ 13 (d := d__law_free) rfl
  obtain ⟨fd__law_some_grid, F__law_some_grid⟩ := c.def_ 14 (d := d__law_some_grid) rfl
  obtain ⟨fd__law_world, F__law_world⟩ := c.def_ 15 (d := d__law_world) rfl
  obtain ⟨fd__is_short, F__is_short⟩ := c.def_ 16 (d := d__is_short) rfl
  obtain ⟨fd_is_number, F_is_number⟩ := c.def_ 17 (d := d_is_number) rfl
  obtain ⟨fd__width_of, F__width_of⟩ := c.def_ 18 (d := d__width_of) rfl
  obtain ⟨fd__is_row, F__is_row⟩ := c.def_ 19 (d := d__is_row) rfl
  obtain ⟨fd_Table_init, F_Table_init⟩ := c.def_ 20 (d := d_Table_init) rfl
  obtain ⟨fd__law_table, F__law_table⟩ := c.def_ 21 (d := d__law_table) rfl
  obtain ⟨fd__law_lots, F__law_lots⟩ := c.def_ 22 (d := d__law_lots) rfl
  obtain ⟨fd__law_ranked, F__law_ranked⟩ := c.def_ 23 (d := d__law_ranked) rfl
  obtain ⟨fd__law_joined, F__law_joined⟩ := c.def_ 24 (d := d__law_joined) rfl
  obtain ⟨fd__law_within, F__law_within⟩ := c.def_ 25 (d := d__law_within) rfl
  obtain ⟨fd__law_unmade_joins, F__law_unmade_joins⟩ := c.def_ 26 (d := d__law_unmade_joins) rfl
  obtain ⟨fd_check_number, F_check_number⟩ := c.def_ 27 (d := d_check_number) rfl
  obtain ⟨fd__is_ascending, F__is_ascending⟩ := c.def_ 28 (d := d__is_ascending) rfl
  obtain ⟨fd_is_lot, F_is_lot⟩ := c.def_ 29 (d := d_is_lot) rfl
  obtain ⟨fd_check_lot, F_check_lot⟩ := c.def_ 30 (d := d_check_lot) rfl
  obtain ⟨fd__check_lots, F__check_lots⟩ := c.def_ 31 (d := d__check_lots) rfl
  obtain ⟨fd_sorted_lots, F_sorted_lots⟩ := c.def_ 32 (d := d_sorted_lots) rfl
  obtain ⟨fd__lot_of_cells, F__lot_of_cells⟩ := c.def_ 33 (d := d__lot_of_cells) rfl
  obtain ⟨fd_lot_of, F_lot_of⟩ := c.def_ 34 (d := d_lot_of) rfl
  obtain ⟨fd_join_all, F_join_all⟩ := c.def_ 35 (d := d_join_all) rfl
  obtain ⟨fd__has_all, F__has_all⟩ := c.def_ 36 (d := d__has_all) rfl
  obtain ⟨fd_holds, F_holds⟩ := c.def_ 37 (d := d_holds) rfl
  obtain ⟨fd__join_of_lower, F__join_of_lower⟩ := c.def_ 38 (d := d__join_of_lower) rfl
  obtain ⟨fd_unmade_rows, F_unmade_rows⟩ := c.def_ 39 (d := d_unmade_rows) rfl
  obtain ⟨fd__law_same, F__law_same⟩ := c.def_ 40 (d := d__law_same) rfl
  obtain ⟨fd_turned, F_turned⟩ := c.def_ 41 (d := d_turned) rfl
  obtain ⟨fd_unmade_columns, F_unmade_columns⟩ := c.def_ 42 (d := d_unmade_columns) rfl
  obtain ⟨fd__law_near_lot, F__law_near_lot⟩ := c.def_ 43 (d := d__law_near_lot) rfl
  obtain ⟨fd__law_alike, F__law_alike⟩ := c.def_ 44 (d := d__law_alike) rfl
  obtain ⟨fd__law_values, F__law_values⟩ := c.def_ 45 (d := d__law_values) rfl
  obtain ⟨fd__law_bare, F__law_bare⟩ := c.def_ 46 (d := d__law_bare) rfl
  obtain ⟨fd__law_is_integer, F__law_is_integer⟩ := c.def_ 47 (d := d__law_is_integer) rfl
  obtain ⟨fd__law_is_lot, F__law_is_lot⟩ := c.def_ 48 (d := d__law_is_lot) rfl
  obtain ⟨fd_is_unmade, F_is_unmade⟩ := c.def_ 49 (d := d_is_unmade) rfl
  obtain ⟨fd__law_shows, F__law_shows⟩ := c.def_ 50 (d := d__law_shows) rfl
  obtain ⟨fd_law, F_law⟩ := c.def_ 51 (d := d_law) rfl
  obtain ⟨fd_BadLot_init, F_BadLot_init⟩ := c.def_ 52 (d := d_BadLot_init) rfl
  obtain ⟨fd_BadPlace_init, F_BadPlace_init⟩ := c.def_ 53 (d := d_BadPlace_init) rfl
  obtain ⟨fd_BadTable_init, F_BadTable_init⟩ := c.def_ 54 (d := d_BadTable_init) rfl
  obtain ⟨fd_Table_row_lots, F_Table_row_lots⟩ := c.getter 0 (d := ("Table", "row_lots", d_Table_row_lots)) rfl
  obtain ⟨fd_Table_columns, F_Table_columns⟩ := c.getter 1 (d := ("Table", "columns", d_Table_columns)) rfl
  obtain ⟨fd_Table_height, F_Table_height⟩ := c.getter 2 (d := ("Table", "height", d_Table_height)) rfl
  obtain ⟨fd_Table_width, F_Table_width⟩ := c.getter 3 (d := ("Table", "width", d_Table_width)) rfl
  obtain ⟨fd_Table_rows, F_Table_rows⟩ := c.getter 4 (d := ("Table", "rows", d_Table_rows)) rfl
  have e := hfa.symm.trans (He.glo_ok X G (c.fact 71 (f := .glo "law") rfl))
  cases e
  have bL := FunD.bindsA (ps := ["script"]) F_law fun _ _ _ _ _ _ us hl => match us, hl with | [_], _ => rfl
  refine ⟨fd_law, fun s v => bL s [v] rfl, fun base _ _ => ?_⟩
  have n_all := He.free_ok X G (c.fact 31 (f := .free "all") rfl)
  have n_any := He.free_ok X G (c.fact 14 (f := .free "any") rfl)
  have n_bool := He.free_ok X G (c.fact 28 (f := .free "bool") rfl)
  have n_enumerate := He.free_ok X G (c.fact 35 (f := .free "enumerate") rfl)
  have n_int := He.free_ok X G (c.fact 1 (f := .free "int") rfl)
  have n_isinstance := He.free_ok X G (c.fact 24 (f := .free "isinstance") rfl)
  have n_len := He.free_ok X G (c.fact 4 (f := .free "len") rfl)
  have n_list := He.free_ok X G (c.fact 25 (f := .free "list") rfl)
  have n_max := He.free_ok X G (c.fact 21 (f := .free "max") rfl)
  have n_min := He.free_ok X G (c.fact 6 (f := .free "min") rfl)
  have n_range := He.free_ok X G (c.fact 9 (f := .free "range") rfl)
  have n_set := He.free_ok X G (c.fact 51 (f := .free "set") rfl)
  have n_sorted := He.free_ok X G (c.fact 41 (f := .free "sorted") rfl)
  have n_str := He.free_ok X G (c.fact 60 (f := .free "str") rfl)
  have n_tuple := He.free_ok X G (c.fact 10 (f := .free "tuple") rfl)
  have v_SIDE := He.int_ok X G (c.fact 26 (f := .int "SIDE" 6) rfl)
  have fl_Table__cells : Fld K "Table" "_cells" := ⟨He.cls_ok (c.fact 32 (f := .cls "Table") rfl), He.noat_ok (c.fact 33 (f := .noat "Table" "_cells") rfl)⟩
  have fl_Table__width : Fld K "Table" "_width" := ⟨He.cls_ok (c.fact 32 (f := .cls "Table") rfl), He.noat_ok (c.fact 34 (f := .noat "Table" "_width") rfl)⟩
  have ic_Table := inst_ok (c.own 3 (f := .inst "Table") rfl)
  have g_Table := (He.glo_ok X G (c.fact 37 (f := .glo "Table") rfl))
  have T_BadLot := exn_ok (c.own 6 (f := .exn "BadLot") rfl)
  have x_BadLot : Exn P w K mg base 1 "BadLot" ["lot"] ["self", "lot"] := ⟨_, fd_BadLot_init, (He.glo_ok X G (c.fact 72 (f := .glo "BadLot") rfl)), T_BadLot.1, T_BadLot.2.1, T_BadLot.2.2, F_BadLot_init.bindsN fun _ _ _ _ _ _ us hl => match us, hl with | [_, _], _ => rfl, fn_oex1 F_BadLot_init ⟨rfl, rfl, rfl, by decide +kernel, rfl, by decide +kernel, by decide +kernel⟩ T_BadLot.1 (He.noat_ok (c.fact 73 (f := .noat "BadLot" "lot") rfl)) fun _ _ _ _ _ _ => pss_one (ps_ost (pv 0) (pv 1))⟩
  have T_BadPlace := exn_ok (c.own 7 (f := .exn "BadPlace") rfl)
  have x_BadPlace : Exn P w K mg base 1 "BadPlace" ["place"] ["self", "place"] := ⟨_, fd_BadPlace_init, (He.glo_ok X G (c.fact 74 (f := .glo "BadPlace") rfl)), T_BadPlace.1, T_BadPlace.2.1, T_BadPlace.2.2, F_BadPlace_init.bindsN fun _ _ _ _ _ _ us hl => match us, hl with | [_, _], _ => rfl, fn_oex1 F_BadPlace_init ⟨rfl, rfl, rfl, by decide +kernel, rfl, by decide +kernel, by decide +kernel⟩ T_BadPlace.1 (He.noat_ok (c.fact 75 (f := .noat "BadPlace" "place") rfl)) fun _ _ _ _ _ _ => pss_one (ps_ost (pv 0) (pv 1))⟩
  have T_BadTable := exn_ok (c.own 8 (f := .exn "BadTable") rfl)
  have x_BadTable : Exn P w K mg base 1 "BadTable" ["row"] ["self", "row"] := ⟨_, fd_BadTable_init, (He.glo_ok X G (c.fact 76 (f := .glo "BadTable") rfl)), T_BadTable.1, T_BadTable.2.1, T_BadTable.2.2, F_BadTable_init.bindsN fun _ _ _ _ _ _ us hl => match us, hl with | [_, _], _ => rfl, fn_oex1 F_BadTable_init ⟨rfl, rfl, rfl, by decide +kernel, rfl, by decide +kernel, by decide +kernel⟩ T_BadTable.1 (He.noat_ok (c.fact 77 (f := .noat "BadTable" "row") rfl)) fun _ _ _ _ _ _ => pss_one (ps_ost (pv 0) (pv 1))⟩
  have c__law_store := ok__law_store (P := P) (w := w) (mg := mg) (base := base) F__law_store (He.glo_ok X G (c.fact 0 (f := .glo "_law_store") rfl)) n_int
  have c__law_mix := ok__law_mix (P := P) (w := w) (mg := mg) (base := base) F__law_mix (He.glo_ok X G (c.fact 2 (f := .glo "_law_mix") rfl)) n_int
  have c__law_take := ok__law_take (P := P) (w := w) (mg := mg) (base := base) F__law_take (He.glo_ok X G (c.fact 3 (f := .glo "_law_take") rfl)) c__law_mix n_int n_len
  have c__law_side := ok__law_side (P := P) (w := w) (mg := mg) (base := base) F__law_side (He.glo_ok X G (c.fact 5 (f := .glo "_law_side") rfl)) c__law_take n_min
  have c__law_sizes := ok__law_sizes (P := P) (w := w) (mg := mg) (base := base) F__law_sizes (He.glo_ok X G (c.fact 7 (f := .glo "_law_sizes") rfl)) c__law_side c__law_take n_min
  have c__law_turn := ok__law_turn (P := P) (w := w) (mg := mg) (base := base) F__law_turn (He.glo_ok X G (c.fact 8 (f := .glo "_law_turn") rfl)) n_range n_tuple
  have c__law_lot := ok__law_lot (P := P) (w := w) (mg := mg) (base := base) F__law_lot (He.glo_ok X G (c.fact 11 (f := .glo "_law_lot") rfl)) c__law_take n_range n_tuple
  have c__law_pick := ok__law_pick (P := P) (w := w) (mg := mg) (base := base) F__law_pick (He.glo_ok X G (c.fact 12 (f := .glo "_law_pick") rfl)) c__law_take n_len
  have c__law_join := ok__law_join (P := P) (w := w) (mg := mg) (base := base) F__law_join (He.glo_ok X G (c.fact 13 (f := .glo "_law_join") rfl)) n_any n_range n_tuple
  have c__law_of := ok__law_of (P := P) (w := w) (mg := mg) (base := base) F__law_of (He.glo_ok X G (c.fact 15 (f := .glo "_law_of") rfl)) n_len n_range n_tuple
  have c__law_twin := ok__law_twin (P := P) (w := w) (mg := mg) (base := base) F__law_twin (He.glo_ok X G (c.fact 16 (f := .glo "_law_twin") rfl)) c__law_join c__law_lot c__law_of c__law_pick c__law_take n_range
  have c__law_shuffle := ok__law_shuffle (P := P) (w := w) (mg := mg) (base := base) F__law_shuffle (He.glo_ok X G (c.fact 17 (f := .glo "_law_shuffle") rfl)) c__law_take n_len n_range
  have c__law_placing := ok__law_placing (P := P) (w := w) (mg := mg) (base := base) F__law_placing (He.glo_ok X G (c.fact 18 (f := .glo "_law_placing") rfl)) c__law_shuffle c__law_take n_int n_range n_tuple
  have c__law_free := ok__law_free (P := P) (w := w) (mg := mg) (base := base) F__law_free (He.glo_ok X G (c.fact 19 (f := .glo "_law_free") rfl)) c__law_of c__law_take n_range n_tuple
  have c__law_some_grid := ok__law_some_grid (P := P) (w := w) (mg := mg) (base := base) F__law_some_grid (He.glo_ok X G (c.fact 20 (f := .glo "_law_some_grid") rfl)) c__law_free c__law_of c__law_pick c__law_placing c__law_take c__law_twin n_max n_range n_tuple
  have c__law_world := ok__law_world (P := P) (w := w) (mg := mg) (base := base) F__law_world (He.glo_ok X G (c.fact 22 (f := .glo "_law_world") rfl)) c__law_join c__law_of c__law_placing c__law_sizes c__law_some_grid c__law_take c__law_turn c__law_twin n_range n_tuple
  have c__is_short := ok__is_short (P := P) (w := w) (mg := mg) (base := base) F__is_short (He.glo_ok X G (c.fact 23 (f := .glo "_is_short") rfl)) n_isinstance n_len n_list n_tuple v_SIDE
  have c_is_number := ok_is_number (P := P) (w := w) (mg := mg) (base := base) F_is_number (He.glo_ok X G (c.fact 27 (f := .glo "is_number") rfl)) n_bool n_int n_isinstance
  have c__width_of := ok__width_of (P := P) (w := w) (mg := mg) (base := base) F__width_of (He.glo_ok X G (c.fact 29 (f := .glo "_width_of") rfl)) c__is_short c_is_number x_BadTable n_len v_SIDE
  have c__is_row := ok__is_row (P := P) (w := w) (mg := mg) (base := base) F__is_row (He.glo_ok X G (c.fact 30 (f := .glo "_is_row") rfl)) c__is_short n_all n_bool n_isinstance n_len
  have o_Table_init := ok_Table_init (P := P) (w := w) (mg := mg) (base := base) F_Table_init c__is_row c__width_of fl_Table__cells fl_Table__width x_BadTable n_enumerate n_tuple
  have mk_Table : Mkr P w K mg base 4 "Table" "Table.__init__" (defArgs s_Table_init) (defBody s_Table_init) (defScope s_Table_init) [("width", .non)] ["self", "rows", "width"] deni_Table_init := ⟨_, fd_Table_init, (He.glo_ok X G (c.fact 37 (f := .glo "Table") rfl)), He.mkr_ok (c.fact 38 (f := .mkr "Table") rfl), F_Table_init, o_Table_init⟩
  have c__law_table := ok__law_table (P := P) (w := w) (mg := mg) (base := base) F__law_table (He.glo_ok X G (c.fact 36 (f := .glo "_law_table") rfl)) mk_Table
  have c__law_lots := ok__law_lots (P := P) (w := w) (mg := mg) (base := base) F__law_lots (He.glo_ok X G (c.fact 39 (f := .glo "_law_lots") rfl)) n_range n_tuple
  have c__law_ranked := ok__law_ranked (P := P) (w := w) (mg := mg) (base := base) F__law_ranked (He.glo_ok X G (c.fact 40 (f := .glo "_law_ranked") rfl)) n_len n_sorted
  have c__law_joined := ok__law_joined (P := P) (w := w) (mg := mg) (base := base) F__law_joined (He.glo_ok X G (c.fact 42 (f := .glo "_law_joined") rfl)) c__law_join c__law_lots c__law_ranked
  have c__law_within := ok__law_within (P := P) (w := w) (mg := mg) (base := base) F__law_within (He.glo_ok X G (c.fact 43 (f := .glo "_law_within") rfl)) n_all
  have c__law_unmade_joins := ok__law_unmade_joins (P := P) (w := w) (mg := mg) (base := base) F__law_unmade_joins (He.glo_ok X G (c.fact 44 (f := .glo "_law_unmade_joins") rfl)) c__law_join c__law_joined c__law_within n_len n_range
  have c_check_number := ok_check_number (P := P) (w := w) (mg := mg) (base := base) F_check_number (He.glo_ok X G (c.fact 45 (f := .glo "check_number") rfl)) c_is_number x_BadPlace
  have c__is_ascending := ok__is_ascending (P := P) (w := w) (mg := mg) (base := base) F__is_ascending (He.glo_ok X G (c.fact 46 (f := .glo "_is_ascending") rfl)) c_is_number
  have c_is_lot := ok_is_lot (P := P) (w := w) (mg := mg) (base := base) F_is_lot (He.glo_ok X G (c.fact 47 (f := .glo "is_lot") rfl)) c__is_ascending c_check_number n_isinstance n_tuple v_SIDE
  have c_check_lot := ok_check_lot (P := P) (w := w) (mg := mg) (base := base) F_check_lot (He.glo_ok X G (c.fact 48 (f := .glo "check_lot") rfl)) c_is_lot x_BadLot
  have c__check_lots := ok__check_lots (P := P) (w := w) (mg := mg) (base := base) F__check_lots (He.glo_ok X G (c.fact 49 (f := .glo "_check_lots") rfl)) c_check_lot v_SIDE
  have c_sorted_lots := ok_sorted_lots (P := P) (w := w) (mg := mg) (base := base) F_sorted_lots (He.glo_ok X G (c.fact 50 (f := .glo "sorted_lots") rfl)) c__check_lots n_len n_set n_sorted
  have c__lot_of_cells := ok__lot_of_cells (P := P) (w := w) (mg := mg) (base := base) F__lot_of_cells (He.glo_ok X G (c.fact 52 (f := .glo "_lot_of_cells") rfl)) n_enumerate n_tuple
  have o_Table_row_lots := ok_Table_row_lots (P := P) (w := w) (mg := mg) (base := base) F_Table_row_lots c__lot_of_cells fl_Table__cells
  have p_Table_row_lots : Prp P w K mg base 2 "Table" "row_lots" ["self"] den_Table_row_lots := ⟨⟨_, _, fd_Table_row_lots, prop_ok (c.own 0 (f := .prop "Table" "row_lots") rfl), o_Table_row_lots.1, o_Table_row_lots.2⟩, He.cls_ok (c.fact 32 (f := .cls "Table") rfl)⟩
  have c_lot_of := ok_lot_of (P := P) (w := w) (mg := mg) (base := base) F_lot_of (He.glo_ok X G (c.fact 53 (f := .glo "lot_of") rfl)) c_check_number c_is_number x_BadLot n_all n_isinstance n_list n_set n_sorted n_tuple v_SIDE
  have c_join_all := ok_join_all (P := P) (w := w) (mg := mg) (base := base) F_join_all (He.glo_ok X G (c.fact 54 (f := .glo "join_all") rfl)) c_lot_of
  have c__has_all := ok__has_all (P := P) (w := w) (mg := mg) (base := base) F__has_all (He.glo_ok X G (c.fact 55 (f := .glo "_has_all") rfl)) n_all
  have c_holds := ok_holds (P := P) (w := w) (mg := mg) (base := base) F_holds (He.glo_ok X G (c.fact 56 (f := .glo "holds") rfl)) c__check_lots c__has_all
  have c__join_of_lower := ok__join_of_lower (P := P) (w := w) (mg := mg) (base := base) F__join_of_lower (He.glo_ok X G (c.fact 57 (f := .glo "_join_of_lower") rfl)) c_holds c_join_all
  have c_unmade_rows := ok_unmade_rows (P := P) (w := w) (mg := mg) (base := base) F_unmade_rows (He.glo_ok X G (c.fact 58 (f := .glo "unmade_rows") rfl)) c__join_of_lower c_sorted_lots p_Table_row_lots
  have cf_unmade_rows := okF_unmade_rows (P := P) (w := w) (mg := mg) (base := base) F_unmade_rows (He.glo_ok X G (c.fact 58 (f := .glo "unmade_rows") rfl)) c__join_of_lower c_sorted_lots p_Table_row_lots
  have c__law_same := ok__law_same (P := P) (w := w) (mg := mg) (base := base) F__law_same (He.glo_ok X G (c.fact 59 (f := .glo "_law_same") rfl)) n_all n_bool n_int n_isinstance n_len n_list n_range n_str n_tuple 6
  have o_Table_columns := ok_Table_columns (P := P) (w := w) (mg := mg) (base := base) F_Table_columns fl_Table__cells fl_Table__width n_range
  have p_Table_columns : Prp P w K mg base 1 "Table" "columns" ["self"] den_Table_columns := ⟨⟨_, _, fd_Table_columns, prop_ok (c.own 1 (f := .prop "Table" "columns") rfl), o_Table_columns.1, o_Table_columns.2⟩, He.cls_ok (c.fact 32 (f := .cls "Table") rfl)⟩
  have o_Table_height := ok_Table_height (P := P) (w := w) (mg := mg) (base := base) F_Table_height fl_Table__cells n_len
  have p_Table_height : Prp P w K mg base 1 "Table" "height" ["self"] den_Table_height := ⟨⟨_, _, fd_Table_height, prop_ok (c.own 2 (f := .prop "Table" "height") rfl), o_Table_height.1, o_Table_height.2⟩, He.cls_ok (c.fact 32 (f := .cls "Table") rfl)⟩
  have c_turned := ok_turned (P := P) (w := w) (mg := mg) (base := base) F_turned (He.glo_ok X G (c.fact 61 (f := .glo "turned") rfl)) p_Table_columns p_Table_height mk_Table
  have c_unmade_columns := ok_unmade_columns (P := P) (w := w) (mg := mg) (base := base) F_unmade_columns (He.glo_ok X G (c.fact 62 (f := .glo "unmade_columns") rfl)) c_turned cf_unmade_rows
  have cf_unmade_columns := okF_unmade_columns (P := P) (w := w) (mg := mg) (base := base) F_unmade_columns (He.glo_ok X G (c.fact 62 (f := .glo "unmade_columns") rfl)) c_turned cf_unmade_rows
  have c__law_near_lot := ok__law_near_lot (P := P) (w := w) (mg := mg) (base := base) F__law_near_lot (He.glo_ok X G (c.fact 63 (f := .glo "_law_near_lot") rfl)) c__law_lot c__law_take n_len
  have c__law_alike := ok__law_alike (P := P) (w := w) (mg := mg) (base := base) F__law_alike (He.glo_ok X G (c.fact 64 (f := .glo "_law_alike") rfl)) n_tuple
  have c__law_values := ok__law_values (P := P) (w := w) (mg := mg) (base := base) F__law_values (He.glo_ok X G (c.fact 65 (f := .glo "_law_values") rfl)) c__law_alike c__law_join c__law_lot c__law_lots c__law_near_lot c__law_pick n_len n_range
  have c__law_bare := ok__law_bare (P := P) (w := w) (mg := mg) (base := base) F__law_bare (He.glo_ok X G (c.fact 66 (f := .glo "_law_bare") rfl)) ic_Table g_Table n_isinstance n_list n_tuple 6
  have c__law_is_integer := ok__law_is_integer (P := P) (w := w) (mg := mg) (base := base) F__law_is_integer (He.glo_ok X G (c.fact 67 (f := .glo "_law_is_integer") rfl)) n_bool n_int n_isinstance
  have c__law_is_lot := ok__law_is_lot (P := P) (w := w) (mg := mg) (base := base) F__law_is_lot (He.glo_ok X G (c.fact 68 (f := .glo "_law_is_lot") rfl)) c__law_is_integer n_isinstance n_tuple
  have o_Table_width := ok_Table_width (P := P) (w := w) (mg := mg) (base := base) F_Table_width fl_Table__width
  have p_Table_width : Prp P w K mg base 1 "Table" "width" ["self"] den_Table_width := ⟨⟨_, _, fd_Table_width, prop_ok (c.own 4 (f := .prop "Table" "width") rfl), o_Table_width.1, o_Table_width.2⟩, He.cls_ok (c.fact 32 (f := .cls "Table") rfl)⟩
  have c_is_unmade := ok_is_unmade (P := P) (w := w) (mg := mg) (base := base) F_is_unmade (He.glo_ok X G (c.fact 69 (f := .glo "is_unmade") rfl)) c_is_lot c_unmade_rows p_Table_width
  have o_Table_rows := ok_Table_rows (P := P) (w := w) (mg := mg) (base := base) F_Table_rows fl_Table__cells n_list
  have p_Table_rows : Prp P w K mg base 1 "Table" "rows" ["self"] den_Table_rows := ⟨⟨_, _, fd_Table_rows, prop_ok (c.own 5 (f := .prop "Table" "rows") rfl), o_Table_rows.1, o_Table_rows.2⟩, He.cls_ok (c.fact 32 (f := .cls "Table") rfl)⟩
  have c__law_shows := ok__law_shows (P := P) (w := w) (mg := mg) (base := base) F__law_shows (He.glo_ok X G (c.fact 70 (f := .glo "_law_shows") rfl)) c__law_same p_Table_height p_Table_rows p_Table_width ic_Table g_Table n_isinstance
  exact ok_law (P := P) (w := w) (mg := mg) (base := base) F_law c__law_bare c__law_is_lot c__law_same c__law_shows c__law_store c__law_table c__law_turn c__law_unmade_joins c__law_values c__law_world c_is_unmade cf_unmade_columns cf_unmade_rows n_all n_range hst hG
end
end Hd
set_option Elab.async false
set_option linter.all false
set_option maxRecDepth 100000
set_option maxHeartbeats 4000000
namespace Den
open PySem PySem.Spec PyProof.Rows L2
@[irreducible] def Tri {α : Type} (x : M α) (m : SM) (P : α → SM → Prop) : Prop := match x m with
  | .ok a m' => P a m'
  | _ => False
@[irreducible] def TriF (x : M Fl) (m : SM) (P : Fl → SM → Prop) : Prop := match x m with
  | .ok (.ex _ _ _) _ => False
  | .ok f m' => P f m'
  | _ => False
section
variable {α β : Type} {x : M α} {m : SM} {P Q : α → SM → Prop}
theorem Tri.mono (h : Tri x m Q) (k : ∀ a m', Q a m' → P a m') : Tri x m P := by
  unfold Tri at h ⊢
  cases e : x m with
  | ok a m' => rw [e] at h; exact k a m' h
  | err c fs m' => rw [e] at h; exact h
  | bad => rw [e] at h; exact h
theorem Tri.run (h : Tri x m Q) : ∃ a m', x m = .ok a m' ∧ Q a m' := by
  unfold Tri at h
  cases e : x m with
  | ok a m' => rw [e] at h; exact ⟨a, m', rfl, h⟩
  | err c fs m' => rw [e] at h; exact h.elim
  | bad => rw [e] at h; exact h.elim
theorem Tri.of {a : α} {m' : SM} (h : x m = .ok a m') (q : Q a m') : Tri x m Q := by unfold Tri; rw [h]; exact q
theorem tri_pure {a : α} : Tri (pure a) m P ↔ P a m := by unfold Tri; exact Iff.rfl
theorem tri_bind {f : α → M β} {P : β → SM → Prop} : Tri (x >>= f) m P ↔ Tri x m fun a m' => Tri (f a) m' P := by
  unfold Tri
  rw [bind_run]
  cases x m <;> rfl
theorem tri_bad : Tri (M.bad : M α) m P ↔ False := by unfold Tri; exact Iff.rfl
theorem tri_need {b : Bool} {P : Unit → SM → Prop} : Tri (need b) m P ↔ b = true ∧ P () m := by
  unfold need
  by_cases h : b = true
  · rw [if_pos h, tri_pure]; exact ⟨fun z => ⟨h, z⟩, fun z => z.2⟩
  · rw [if_neg h, tri_bad]; exact ⟨fun z => z.elim, fun z => h z.1⟩
theorem tri_lim {n : Nat} {P : Unit → SM → Prop} : Tri (lim n) m P ↔ n ≤ 16777216 ∧ P () m := by
  unfold lim
  by_cases h : n ≤ 16777216
  · rw [if_pos h, tri_pure]; exact ⟨fun z => ⟨h, z⟩, fun z => z.2⟩
  · rw [if_neg h, tri_bad]; exact ⟨fun z => z.elim, fun z => h z.1⟩
theorem tri_noErr : Tri (noErr x) m P ↔ Tri x m P := by
  unfold Tri noErr
  cases x m <;> rfl
theorem tri_ite {c : Prop} [Decidable c] {x y : M α} : Tri (if c then x else y) m P ↔ if c then Tri x m P else Tri y m P := by
  by_cases h : c
  · rw [if_pos h, if_pos h]
  · rw [if_neg h, if_neg h]
end
section
variable {m : SM} {P : D → SM → Prop} {ρ : EV} {F G J : EV → M D} {A : EV → M (List D)}
theorem tri_fC {d : D} : Tri (fC d ρ) m P ↔ P d m := by unfold Tri; exact Iff.rfl
theorem tri_gVar {i : Nat} : Tri (gVar i ρ) m P ↔ ∃ d, ρ[i]? = some (some d) ∧ P d m := by
  unfold gVar Tri
  cases e : ρ[i]? with
  | none => simp
  | some o =>
    cases o with
    | none => simp
    | some d => simp
theorem tri_f2 {g : D → D → M D} : Tri (f2 g F G ρ) m P ↔ Tri (F ρ) m fun x m => Tri (G ρ) m fun y m => Tri (g x y) m P := by
  unfold f2; rw [tri_bind]; simp only [tri_bind]
theorem tri_f1 {g : D → M D} : Tri (f1 g F ρ) m P ↔ Tri (F ρ) m fun x m => Tri (g x) m P := tri_bind
theorem tri_fL {g : List D → M D} : Tri (fL g A ρ) m P ↔ Tri (A ρ) m fun ds m => Tri (g ds) m P := tri_bind
theorem tri_aN {P : List D → SM → Prop} : Tri (aN ρ) m P ↔ P [] m := by unfold Tri; exact Iff.rfl
theorem tri_aC {P : List D → SM → Prop} : Tri (aC F A ρ) m P ↔ Tri (F ρ) m fun d m => Tri (A ρ) m fun ds m => P (d :: ds) m := by
  unfold aC; simp only [tri_bind, tri_pure]
theorem tri_fTup : Tri (fTup A ρ) m P ↔ Tri (A ρ) m fun ds m => ds.length ≤ 16777216 ∧ P (.tup ds) m := by
  unfold fTup; simp only [tri_bind, tri_lim, tri_pure]
theorem tri_lDis {P : List D → SM → Prop} : Tri (lDis A ρ) m P ↔ Tri (A ρ) m fun ds m => ds.length ≤ 16777216 ∧ P ds m := by
  unfold lDis; simp only [tri_bind, tri_lim, tri_pure]
theorem tri_fNew {L : EV → M (List D)} : Tri (fNew L ρ) m P ↔ Tri (L ρ) m fun ds m => P (.lst ds) m := by
  unfold fNew; simp only [tri_bind, tri_pure]
theorem tri_fNot : Tri (fNot F ρ) m P ↔ Tri (F ρ) m fun x m => Tri (dTru x) m fun b m => P (.bl (!b)) m := by
  unfold fNot; simp only [tri_bind, tri_pure]
theorem tri_fAnd : Tri (fAnd F G ρ) m P ↔ Tri (F ρ) m fun x m => Tri (dTru x) m fun b m => if b = true then Tri (G ρ) m P else P x m := by
  unfold fAnd; simp only [tri_bind, tri_ite, tri_pure]
theorem tri_fOr : Tri (fOr F G ρ) m P ↔ Tri (F ρ) m fun x m => Tri (dTru x) m fun b m => if b = true then P x m else Tri (G ρ) m P := by
  unfold fOr; simp only [tri_bind, tri_ite, tri_pure]
theorem tri_fIf {C : EV → M Bool} : Tri (fIf C F G ρ) m P ↔ Tri (C ρ) m fun b m => if b = true then Tri (F ρ) m P else Tri (G ρ) m P := by
  unfold fIf; simp only [tri_bind, tri_ite]
theorem tri_fCh {g g' : D → D → M D} : Tri (fCh g g' F G J ρ) m P ↔ Tri (F ρ) m fun x m => Tri (G ρ) m fun y m => Tri (g x y) m fun z m => Tri (asB z) m fun k m => if k = true then Tri (J ρ) m fun u m => Tri (g' y u) m P else P (.bl false) m := by
  unfold fCh; simp only [tri_bind, tri_ite, tri_pure]
section
variable {P : Bool → SM → Prop} {C C' : EV → M Bool}
theorem tri_tT : Tri (tT F ρ) m P ↔ Tri (F ρ) m fun x m => Tri (dTru x) m P := tri_bind
theorem tri_t2 {g : D → D → M D} : Tri (t2 g F G ρ) m P ↔ Tri (F ρ) m fun x m => Tri (G ρ) m fun y m => Tri (g x y) m fun z m => Tri (asB z) m P := by
  unfold t2; simp only [tri_bind]
theorem tri_tYes : Tri (tYes ρ) m P ↔ P true m := by unfold Tri; exact Iff.rfl
theorem tri_tNo : Tri (tNo C ρ) m P ↔ Tri (C ρ) m fun b m => P (!b) m := by unfold tNo; simp only [tri_bind, tri_pure]
theorem tri_tAnd : Tri (tAnd C C' ρ) m P ↔ Tri (C ρ) m fun b m => if b = true then Tri (C' ρ) m P else P false m := by unfold tAnd; simp only [tri_bind, tri_ite, tri_pure]
theorem tri_tOr : Tri (tOr C C' ρ) m P ↔ Tri (C ρ) m fun b m => if b = true then P true m else Tri (C' ρ) m P := by unfold tOr; simp only [tri_bind, tri_ite, tri_pure]
theorem tri_asB {b : Bool} : Tri (asB (.bl b)) m P ↔ P b m := by unfold Tri; exact Iff.rfl
theorem tri_truB {b : Bool} : Tri (dTru (.bl b)) m P ↔ P b m := by unfold Tri; exact Iff.rfl
theorem tri_truI {i : Int} : Tri (dTru (.int i)) m P ↔ P (i != 0) m := by unfold Tri; exact Iff.rfl
theorem tri_truL {xs : List D} : Tri (dTru (.lst xs)) m P ↔ P (!xs.isEmpty) m := by unfold Tri; exact Iff.rfl
theorem tri_truT {xs : List D} : Tri (dTru (.tup xs)) m P ↔ P (!xs.isEmpty) m := by unfold Tri; exact Iff.rfl
theorem tri_truN : Tri (dTru .non) m P ↔ P false m := by unfold Tri; exact Iff.rfl
end
section
variable {i j : Int}
theorem tri_ofO {o : Option D} : Tri (ofO o) m P ↔ ∃ d, o = some d ∧ P d m := by
  cases o with
  | none => simp [ofO, Tri]
  | some d => simp [ofO, Tri]
theorem tri_dI {c : Int → Int → Bool} {f : Int → Int → D} : Tri (dI c f (.int i) (.int j)) m P ↔ c i j = true ∧ P (f i j) m := by
  unfold dI; simp only [tri_bind, tri_need, tri_pure]
theorem tri_add : Tri (dAdd (.int i) (.int j)) m P ↔ P (.int (i + j)) m := by unfold Tri; exact Iff.rfl
theorem tri_sub : Tri (dSub (.int i) (.int j)) m P ↔ P (.int (i - j)) m := by unfold dSub; rw [tri_dI]; simp
theorem tri_lt : Tri (dLt (.int i) (.int j)) m P ↔ P (.bl (decide (i < j))) m := by unfold dLt; rw [tri_dI]; simp
theorem tri_le : Tri (dLe (.int i) (.int j)) m P ↔ P (.bl (decide (i ≤ j))) m := by unfold dLe; rw [tri_dI]; simp
theorem tri_gt : Tri (dGt (.int i) (.int j)) m P ↔ P (.bl (decide (j < i))) m := by unfold dGt; rw [tri_dI]; simp
theorem tri_ge : Tri (dGe (.int i) (.int j)) m P ↔ P (.bl (decide (j ≤ i))) m := by unfold dGe; rw [tri_dI]; simp
theorem tri_mod : Tri (dMod (.int i) (.int j)) m P ↔ 0 < j ∧ P (.int (i % j)) m := by unfold dMod; rw [tri_dI]; simp
theorem tri_pow : Tri (dPow (.int i) (.int j)) m P ↔ (0 ≤ j ∧ j ≤ 1000000 ∧ i.natAbs < 2 ^ 64) ∧ P (.int (i ^ j.toNat)) m := by unfold dPow; rw [tri_dI]; simp
theorem tri_mul : Tri (dMul (.int i) (.int j)) m P ↔ ((-(2 ^ 64) < i ∧ i < 2 ^ 64) ∨ (-(2 ^ 64) < j ∧ j < 2 ^ 64)) ∧ P (.int (i * j)) m := by
  unfold dMul; simp only [tri_bind, tri_need, tri_pure, decide_eq_true_eq]
theorem tri_int : Tri (dInt [.int i]) m P ↔ P (.int i) m := by unfold Tri; exact Iff.rfl
theorem tri_len {d : D} : Tri (dLen [d]) m P ↔ ∃ n, dLen1 d = some n ∧ P (.int n) m := by
  unfold dLen; rw [tri_ofO]
  cases e : dLen1 d <;> simp
theorem tri_min : Tri (dMin [.int i, .int j]) m P ↔ P (.int (if j < i then j else i)) m := by unfold Tri; exact Iff.rfl
theorem tri_max : Tri (dMax [.int i, .int j]) m P ↔ P (.int (if j > i then j else i)) m := by unfold Tri; exact Iff.rfl
theorem tri_eqI : Tri (dEq (.int i) (.int j)) m P ↔ P (.bl (decide (i = j))) m := by
  unfold dEq dEqB D.py
  have h : (SeqAt.shaped (PyData.int i) && SeqAt.shaped (PyData.int j)) = true := by simp [SeqAt.shaped, PyData.canLay0, PyData.depth]
  simp only [h, if_true, PyData.eqv]
  unfold Tri; exact Iff.rfl
end
end
section
variable {m : SM} {P : Fl → SM → Prop} {ρ : SV} {G G1 G2 : SV → M Fl}
theorem TriF.mono {x : M Fl} {Q : Fl → SM → Prop} (h : TriF x m Q) (k : ∀ a m', Q a m' → P a m') : TriF x m P := by
  unfold TriF at h ⊢
  cases e : x m with
  | ok a m' =>
    rw [e] at h
    cases a <;> first | exact h | exact k _ m' h
  | err c fs m' => rw [e] at h; exact h
  | bad => rw [e] at h; exact h
theorem triF_exB {α : Type} {x : M α} {f : α → M Fl} : TriF (exB x ρ f) m P ↔ Tri x m fun a m' => TriF (f a) m' P := by
  unfold TriF Tri
  rw [exB_run]
  cases x m <;> rfl
theorem triF_bad {α : Type} {f : α → M Fl} : TriF ((M.bad : M α) >>= f) m P ↔ False := by unfold TriF; exact Iff.rfl
theorem triF_bad0 : TriF (M.bad : M Fl) m P ↔ False := by unfold TriF; exact Iff.rfl
theorem triF_ok {f : Unit → M Fl} : TriF ((pure () : M Unit) >>= f) m P ↔ TriF (f ()) m P := Iff.rfl
theorem triF_need {b : Bool} {f : Unit → M Fl} : TriF (need b >>= f) m P ↔ b = true ∧ TriF (f ()) m P := by
  unfold need
  by_cases h : b = true
  · rw [if_pos h, triF_ok]; exact ⟨fun z => ⟨h, z⟩, fun z => z.2⟩
  · rw [if_neg h, triF_bad]; exact ⟨fun z => z.elim, fun z => h z.1⟩
theorem triF_lim {n : Nat} {f : Unit → M Fl} : TriF (lim n >>= f) m P ↔ n ≤ 16777216 ∧ TriF (f ()) m P := by
  unfold lim
  by_cases h : n ≤ 16777216
  · rw [if_pos h, triF_ok]; exact ⟨fun z => ⟨h, z⟩, fun z => z.2⟩
  · rw [if_neg h, triF_bad]; exact ⟨fun z => z.elim, fun z => h z.1⟩
theorem triF_nx {ρ' : SV} : TriF (pure (.nx ρ')) m P ↔ P (.nx ρ') m := by unfold TriF; exact Iff.rfl
theorem triF_rt {d : D} : TriF (pure (.rt d)) m P ↔ P (.rt d) m := by unfold TriF; exact Iff.rfl
theorem triF_bk {ρ' : SV} : TriF (pure (.bk ρ')) m P ↔ P (.bk ρ') m := by unfold TriF; exact Iff.rfl
theorem triF_ct {ρ' : SV} : TriF (pure (.ct ρ')) m P ↔ P (.ct ρ') m := by unfold TriF; exact Iff.rfl
/-- behind the first: what the second must do -/
def aft (G : SV → M Fl) (P : Fl → SM → Prop) : Fl → SM → Prop
  | .nx ρ', m => TriF (G ρ') m P
  | f, m => P f m
theorem aft_nx {ρ' : SV} : aft G P (.nx ρ') m = TriF (G ρ') m P := rfl
theorem aft_rt {d : D} : aft G P (.rt d) m = P (.rt d) m := rfl
theorem aft_rf {ds : List D} : aft G P (.rf ds) m = P (.rf ds) m := rfl
theorem triF_retO {z : Nat} {ρ : SV} : TriF (gRetO z ρ) m P ↔ ∃ xs, ρ[z]? = some (.ow xs) ∧ P (.rf xs) m := by
  unfold TriF gRetO
  cases e : ρ[z]? with
  | none => simp
  | some s => cases s <;> simp [e]
theorem triF_seq : TriF (gSeq G1 G2 ρ) m P ↔ TriF (G1 ρ) m (aft G2 P) := by
  unfold TriF gSeq
  rw [bind_run]
  cases G1 ρ m with
  | ok f m' =>
    cases f with
    | nx ρ' => simp only [aft]; unfold TriF; rfl
    | _ => simp [aft]
  | err c fs m' => rfl
  | bad => rfl
theorem triF_ite {c : Prop} [Decidable c] {x y : M Fl} : TriF (if c then x else y) m P ↔ if c then TriF x m P else TriF y m P := by
  by_cases h : c
  · rw [if_pos h, if_pos h]
  · rw [if_neg h, if_neg h]
theorem triF_ret {F : EV → M D} : TriF (gRet F ρ) m P ↔ Tri (F (vw (allM ρ) ρ)) m fun d m => P (.rt d) m := by unfold gRet; rw [triF_exB]; simp only [triF_rt]
theorem triF_if {C : EV → M Bool} : TriF (gIf C G1 G2 ρ) m P ↔ Tri (C (vw (allM ρ) ρ)) m fun b m => if b = true then TriF (G1 ρ) m P else TriF (G2 ρ) m P := by unfold gIf; rw [triF_exB]; simp only [triF_ite]
theorem triF_asg {i : Nat} {mk : List Bool} {F : EV → M D} : TriF (gAsg i mk F ρ) m P ↔ Tri (F (vw mk ρ)) m fun d m => (mk.isEmpty || d.flat) = true ∧ P (.nx (ρ.set i (.va d))) m := by unfold gAsg; rw [triF_exB]; simp only [triF_need, triF_nx]
theorem triF_new {i : Nat} {mk : List Bool} {L : EV → M (List D)} : TriF (gNew i mk L ρ) m P ↔ Tri (L (vw mk ρ)) m fun ds m => flatsOk mk ds = true ∧ P (.nx (ρ.set i (.ow ds))) m := by unfold gNew; rw [triF_exB]; simp only [triF_need, triF_nx]
theorem triF_setS {i : Nat} {F Gj : EV → M D} : TriF (gSetS i F Gj ρ) m P ↔ Tri (F (vw [] ρ)) m fun d m => Tri (Gj (vw [] ρ)) m fun j m => isSto i ρ = true ∧ TriF (setSt d j ρ) m P := by
  unfold gSetS; rw [triF_exB]; simp only [triF_exB]
  constructor <;> intro h <;> refine h.mono fun d m h => h.mono fun j m h => ?_
  · by_cases hh : isSto i ρ = true
    · rw [if_pos hh] at h; exact ⟨hh, h⟩
    · rw [if_neg hh, triF_bad0] at h; exact h.elim
  · rw [if_pos h.1]; exact h.2
theorem triF_setSt {z k : Int} : TriF (setSt (.int z) (.int k) ρ) m P ↔ ∃ n, ixN (m.xs.length + 1) k = some (n + 1) ∧ P (.nx ρ) ⟨m.cs, m.xs.set n z⟩ := by
  unfold setSt TriF
  simp only
  cases e : ixN (m.xs.length + 1) k with
  | none => simp
  | some n => cases n <;> simp
def fin (P : D → SM → Prop) : Fl → SM → Prop
  | .rt d, m => P d m
  | .rf ds, m => P (.lst ds) m
  | .nx _, m => P .non m
  | _, _ => False
theorem fin_rt {P : D → SM → Prop} {d : D} : fin P (.rt d) m = P d m := rfl
theorem fin_rf {P : D → SM → Prop} {ds : List D} : fin P (.rf ds) m = P (.lst ds) m := rfl
theorem fin_nx {P : D → SM → Prop} {ρ' : SV} : fin P (.nx ρ') m = P .non m := rfl
theorem tri_runF {P : D → SM → Prop} {p n : Nat} {ds : List D} : Tri (runF p n G ds) m P ↔ ds.length = p ∧ TriF (G (ds.map .va ++ List.replicate (n - p) .no)) m (fin P) := by
  unfold Tri runF
  by_cases h : ds.length = p
  · rw [if_pos h]
    unfold TriF
    cases e : G (ds.map .va ++ List.replicate (n - p) .no) m with
    | ok f m' => cases f <;> simp [fin, h]
    | err c fs m' => simp
    | bad => simp
  · rw [if_neg h]; simp [h]
/-- a loop by an invariant of the turn -/
theorem triF_loop {bnd : D → SV → Option SV} {B : SV → M Fl} (I : Nat → SV → SM → Prop) : ∀ (ds : List D) (k : Nat) (ρ : SV) (m : SM), I k ρ m →
    (∀ j d ρ m, ds[j]? = some d → I (k + j) ρ m → ∃ ρ1, bnd d ρ = some ρ1 ∧ TriF (B ρ1) m fun f m' => match f with | .nx ρ' => I (k + j + 1) ρ' m' | .ct ρ' => I (k + j + 1) ρ' m' | .bk ρ' => P (.nx ρ') m' | f => P f m') →
    (∀ ρ m, I (k + ds.length) ρ m → P (.nx ρ) m) → TriF (loopS bnd B ds ρ) m P
  | [], k, ρ, m, h0, hs, hd => by
    unfold loopS; rw [triF_nx]; exact hd ρ m h0
  | d :: ds, k, ρ, m, h0, hs, hd => by
    obtain ⟨ρ1, h1, h2⟩ := hs 0 d ρ m rfl h0
    unfold loopS
    rw [h1]
    have ih := fun ρ m h => triF_loop I ds (k + 1) ρ m h (fun j d ρ m e i => by
      have := hs (j + 1) d ρ m (by simpa using e) (by rw [show k + (j + 1) = k + 1 + j by omega]; exact i)
      rw [show k + (j + 1) = k + 1 + j by omega] at this
      exact this) (fun ρ m i => hd ρ m (by rw [List.length_cons, show k + (ds.length + 1) = k + 1 + ds.length by omega]; exact i))
    unfold TriF at h2 ih ⊢
    simp only [bind_run]
    cases e : B ρ1 m with
    | ok f m' =>
      rw [e] at h2
      cases f with
      | nx ρ' => exact ih ρ' m' h2
      | ct ρ' => exact ih ρ' m' h2
      | bk ρ' => exact h2
      | rt d => exact h2
      | rf d => exact h2
      | ex c fs ρ' => exact h2.elim
    | err c fs m' => rw [e] at h2; exact h2
    | bad => rw [e] at h2; exact h2
theorem triF_for {bnd : D → SV → Option SV} {B : SV → M Fl} {I : EV → M (List D)} : TriF (gFor I bnd B ρ) m P ↔ Tri (I (vw [] ρ)) m fun ds m => TriF (loopS bnd B ds ρ) m P := by unfold gFor; rw [triF_exB]
end
end Den
set_option Elab.async false
set_option linter.all false
set_option maxRecDepth 100000
set_option maxHeartbeats 4000000
namespace Den
open PySem PySem.Spec PyProof.Rows L2
section
variable {m : SM} {P : D → SM → Prop} {ρ : EV} {F G : EV → M D} {A : EV → M (List D)} {i j : Int}
theorem tri_div : Tri (dDiv (.int i) (.int j)) m P ↔ (0 < j ∧ j < 2 ^ 64) ∧ P (.int (i / j)) m := by unfold dDiv; rw [tri_dI]; simp
theorem tri_ixL {xs : List D} : Tri (dIx (.lst xs) (.int i)) m P ↔ ∃ d, atI xs i = some d ∧ P d m := tri_ofO
theorem tri_ixT {xs : List D} : Tri (dIx (.tup xs) (.int i)) m P ↔ ∃ d, atI xs i = some d ∧ P d m := tri_ofO
theorem tri_ixC {ns : List Int} : Tri (dIx (.scr ns) (.int i)) m P ↔ ∃ d, (atI ns i).map D.int = some d ∧ P d m := tri_ofO
theorem tri_ixS : Tri (dIx .sto (.int i)) m P ↔ ∃ d, atI m.all i = some d ∧ P d m := by
  show Tri (fun m => ofO (atI m.all i) m) m P ↔ _
  rw [← tri_ofO]; unfold Tri; exact Iff.rfl
theorem atI_nat {α : Type} {xs : List α} {n : Nat} : atI xs (n : Int) = xs[n]? := by
  unfold atI ixN
  by_cases h : n < xs.length
  · simp [h]
  · simp [h]
theorem atI_pos {α : Type} {xs : List α} {i : Int} (h : 0 ≤ i) : atI xs i = xs[i.toNat]? := by
  have q := atI_nat (xs := xs) (n := i.toNat)
  rw [show ((i.toNat : Nat) : Int) = i by omega] at q
  exact q
section
variable {P : List D → SM → Prop}
theorem tri_iSeq : Tri (iSeq F ρ) m P ↔ Tri (F ρ) m fun d m => Tri (dIts d) m P := tri_bind
theorem tri_itsL {xs : List D} : Tri (dIts (.lst xs)) m P ↔ P xs m := by unfold Tri; exact Iff.rfl
theorem tri_itsT {xs : List D} : Tri (dIts (.tup xs)) m P ↔ P xs m := by unfold Tri; exact Iff.rfl
theorem tri_itsC {ns : List Int} : Tri (dIts (.scr ns)) m P ↔ P (ns.map .int) m := by unfold Tri; exact Iff.rfl
theorem tri_iRan {n : Nat} : Tri (iRan n A ρ) m P ↔ Tri (A ρ) m fun ds m => ds.length = n ∧ Tri (dRange ds) m P := by
  unfold iRan; simp only [tri_bind, tri_need, decide_eq_true_eq]
theorem tri_range {j : Int} : Tri (dRange [.int j]) m P ↔ (-(2 ^ 62) ≤ j ∧ j < 2 ^ 62) ∧ P ((List.range j.toNat).map fun i => .int (i : Nat)) m := by
  unfold dRange; simp only [tri_bind, tri_need, tri_pure, decide_eq_true_eq]
theorem tri_iG {g : List D → M (List D)} : Tri (iG g A ρ) m P ↔ Tri (A ρ) m fun ds m => Tri (g ds) m P := tri_bind
theorem tri_enum {xs : List D} : Tri (dEnum [.lst xs]) m P ↔ P (enumD xs) m := by unfold Tri; exact Iff.rfl
theorem tri_comp {bnd : D → EV → Option EV} {I : EV → M (List D)} {C : EV → M Bool} {E : EV → M D} : Tri (compV bnd I C E ρ) m P ↔ Tri (I ρ) m fun ds m => ds.length ≤ 16777216 ∧ Tri (compL bnd C E ρ ds) m P := by
  unfold compV; simp only [tri_bind, tri_lim]
theorem tri_bindE {bnd : D → EV → Option EV} {d : D} {P : EV → SM → Prop} : Tri (bindE bnd d ρ) m P ↔ ∃ ρ1, bnd d ρ = some ρ1 ∧ P ρ1 m := by
  unfold bindE
  cases bnd d ρ with
  | none => simp [Tri]
  | some r => simp [Tri]
theorem tri_compL_cons {bnd : D → EV → Option EV} {C : EV → M Bool} {E : EV → M D} {d : D} {ds : List D} : Tri (compL bnd C E ρ (d :: ds)) m P ↔ ∃ ρ1, bnd d ρ = some ρ1 ∧ Tri (C ρ1) m fun b m => if b = true then Tri (E ρ1) m fun y m => Tri (compL bnd C E ρ ds) m fun r m => P (y :: r) m else Tri (compL bnd C E ρ ds) m P := by
  rw [compL]; simp only [tri_bind, tri_bindE, tri_noErr, tri_ite, tri_pure]
/-- each thing gives at most one, all told by f; the store stays -/
theorem tri_compL {bnd : D → EV → Option EV} {C : EV → M Bool} {E : EV → M D} (f : D → Option D) : ∀ (ds : List D) {m : SM} {P : List D → SM → Prop}, (∀ d ∈ ds, ∃ ρ1, bnd d ρ = some ρ1 ∧ Tri (C ρ1) m fun b m' => m' = m ∧ b = (f d).isSome ∧ (b = true → Tri (E ρ1) m fun y m' => m' = m ∧ f d = some y)) → P (ds.filterMap f) m → Tri (compL bnd C E ρ ds) m P
  | [], _, _, _, q => by rw [compL, tri_pure]; exact q
  | d :: ds, m, P, h, q => by
    obtain ⟨ρ1, h1, h2⟩ := h d (by simp)
    rw [tri_compL_cons]
    refine ⟨ρ1, h1, h2.mono fun b m' ⟨em, eb, hb⟩ => ?_⟩
    subst em
    by_cases hh : b = true
    · rw [if_pos hh]
      refine (hb hh).mono fun y m' ⟨em, ey⟩ => ?_
      subst em
      refine tri_compL f ds (fun d hd => h d (by simp [hd])) ?_
      rw [List.filterMap_cons, ey] at q
      exact q
    · rw [if_neg hh]
      refine tri_compL f ds (fun d hd => h d (by simp [hd])) ?_
      have : f d = none := by
        cases e : f d with
        | none => rfl
        | some y => rw [e] at eb; simp at eb; exact absurd eb hh
      rw [List.filterMap_cons, this] at q
      exact q
/-- no test, the store stays -/
theorem tri_compM {bnd : D → EV → Option EV} {E : EV → M D} (f : D → D) (ds : List D) (h : ∀ d ∈ ds, ∃ ρ1, bnd d ρ = some ρ1 ∧ Tri (E ρ1) m fun y m' => m' = m ∧ y = f d) (q : P (ds.map f) m) : Tri (compL bnd tYes E ρ ds) m P := by
  refine tri_compL (fun d => some (f d)) ds (fun d hd => ?_) (by simpa using q)
  obtain ⟨ρ1, h1, h2⟩ := h d hd
  exact ⟨ρ1, h1, tri_tYes.mpr ⟨rfl, rfl, fun _ => h2.mono fun y m' ⟨a, b⟩ => ⟨a, by rw [b]⟩⟩⟩
/-- the store may change: an invariant of it, a relation of what goes in and what comes out -/
theorem tri_compE {bnd : D → EV → Option EV} {C : EV → M Bool} {E : EV → M D} (I : SM → Prop) (Q : D → D → Prop) (all : Bool) : ∀ (ds : List D) {m : SM} {P : List D → SM → Prop}, I m →
    (∀ d ∈ ds, ∀ m, I m → ∃ ρ1, bnd d ρ = some ρ1 ∧ Tri (C ρ1) m fun b m' => if b = true then Tri (E ρ1) m' (fun y m'' => Q d y ∧ I m'') else (all = false ∧ I m')) →
    (∀ ys m', I m' → ys.length ≤ ds.length → (all = true → ys.length = ds.length) → (∀ y ∈ ys, ∃ d ∈ ds, Q d y) → P ys m') → Tri (compL bnd C E ρ ds) m P
  | [], m, P, hI, _, q => by rw [compL, tri_pure]; exact q [] m hI (Nat.le_refl _) (fun _ => rfl) (by simp)
  | d :: ds, m, P, hI, h, q => by
    obtain ⟨ρ1, h1, h2⟩ := h d (by simp) m hI
    rw [tri_compL_cons]
    refine ⟨ρ1, h1, h2.mono fun b m' hb => ?_⟩
    by_cases hh : b = true
    · rw [if_pos hh] at hb ⊢
      refine hb.mono fun y m2 ⟨hq, hI2⟩ => ?_
      refine tri_compE I Q all ds hI2 (fun d hd => h d (by simp [hd])) fun ys m3 hI3 hl ha hm => q _ _ hI3 (by simp; omega) (fun e => by simp [ha e]) fun z hz => ?_
      rcases List.mem_cons.mp hz with e | hz
      · rw [e]; exact ⟨d, by simp, hq⟩
      · obtain ⟨d', a, b⟩ := hm z hz
        exact ⟨d', by simp [a], b⟩
    · rw [if_neg hh] at hb ⊢
      refine tri_compE I Q all ds hb.2 (fun d hd => h d (by simp [hd])) fun ys m3 hI3 hl ha hm => q _ _ hI3 (by simp; omega) (fun e => by rw [hb.1] at e; cases e) fun z hz => ?_
      obtain ⟨d', a, b⟩ := hm z hz
      exact ⟨d', by simp [a], b⟩
end
theorem tri_tupL {xs : List D} : Tri (dTuple [.lst xs]) m P ↔ P (.tup xs) m := by unfold Tri; exact Iff.rfl
theorem tri_tupT {xs : List D} : Tri (dTuple [.tup xs]) m P ↔ P (.tup xs) m := by unfold Tri; exact Iff.rfl
end
end Den
set_option Elab.async false
set_option linter.all false
set_option maxRecDepth 100000
set_option maxHeartbeats 4000000
namespace Hd
open PySem PySem.Spec PyProof.Rows L2 Den
/-- the store's numbers: the place read is no negative one -/
def SI (m : SM) : Prop := ∃ a b c d e f : Int, m.xs = [a, b, c, d, e, f] ∧ 0 ≤ a
def mixO (n t : Int) : Int := (n % 2305843009213693951 * 6364136223846793005 + t * 1442695040888963407) % 2305843009213693951
def mixF (n t : Int) : Int := (mixO n t * mixO n t + 48271 * mixO n t + mixO n t / 1073741824) % 999999999989
theorem mixO_lt (n t : Int) : -18446744073709551616 < mixO n t ∧ mixO n t < 18446744073709551616 := by
  have h1 := Int.emod_nonneg (n % 2305843009213693951 * 6364136223846793005 + t * 1442695040888963407) (b := 2305843009213693951) (by decide)
  have h2 := Int.emod_lt_of_pos (n % 2305843009213693951 * 6364136223846793005 + t * 1442695040888963407) (b := 2305843009213693951) (by decide)
  unfold mixO
  omega
theorem tri_mix {n t : Int} {m : SM} {P : D → SM → Prop} : Tri (den__law_mix [.int n, .int t]) m P ↔ P (.int (mixF n t)) m := by
  unfold den__law_mix
  simp [tri_runF, triF_seq, triF_nx, triF_rt, triF_bk, triF_ct, triF_ret, triF_if, triF_asg, triF_new, triF_setS, triF_setSt, triF_for, aft_nx, aft_rt, aft_rf, fin_rt, fin_rf, triF_retO, fin_nx, tri_fC, tri_gVar, tri_f2, tri_f1, tri_fL, tri_aN, tri_aC, tri_fTup, tri_lDis, tri_fNew, tri_fNot, tri_fAnd, tri_fOr, tri_fIf, tri_fCh, tri_tT, tri_t2, tri_tYes, tri_tNo, tri_tAnd, tri_tOr, tri_asB, tri_truB, tri_truI, tri_truL, tri_truT, tri_truN, tri_add, tri_sub, tri_lt, tri_le, tri_gt, tri_ge, tri_mod, tri_div, tri_pow, tri_mul, tri_int, tri_len, tri_min, tri_max, tri_eqI, tri_ixL, tri_ixT, tri_ixC, tri_ixS, tri_iSeq, tri_itsL, tri_itsT, tri_itsC, tri_iRan, tri_range, tri_iG, tri_enum, tri_comp, tri_tupL, tri_tupT, tri_pure, tri_bind, tri_need, tri_lim, vw, allM, Sl.see, isSto, ixN, atI, SM.all, dLen1]
  exact ⟨fun h => h.2, fun h => ⟨mixO_lt n t, h⟩⟩
theorem take_run (m : SM) (hm : SI m) (k : Int) (hk : k < 2 ^ 64) : Tri (den__law_take [.sto, .int k]) m fun r m' => SI m' ∧ ∃ z : Int, r = .int z ∧ 0 ≤ z ∧ (z < k ∨ z = 0) := by
  obtain ⟨cs, xs⟩ := m
  obtain ⟨a, b, c, d, e, f, h, ha⟩ := hm
  simp only at h
  subst h
  unfold den__law_take
  simp [tri_runF, triF_seq, triF_nx, triF_rt, triF_bk, triF_ct, triF_ret, triF_if, triF_asg, triF_new, triF_setS, triF_setSt, triF_for, aft_nx, aft_rt, aft_rf, fin_rt, fin_rf, triF_retO, fin_nx, tri_fC, tri_gVar, tri_f2, tri_f1, tri_fL, tri_aN, tri_aC, tri_fTup, tri_lDis, tri_fNew, tri_fNot, tri_fAnd, tri_fOr, tri_fIf, tri_fCh, tri_tT, tri_t2, tri_tYes, tri_tNo, tri_tAnd, tri_tOr, tri_asB, tri_truB, tri_truI, tri_truL, tri_truT, tri_truN, tri_add, tri_sub, tri_lt, tri_le, tri_gt, tri_ge, tri_mod, tri_div, tri_pow, tri_mul, tri_int, tri_len, tri_min, tri_max, tri_eqI, tri_ixL, tri_ixT, tri_ixC, tri_ixS, tri_iSeq, tri_itsL, tri_itsT, tri_itsC, tri_iRan, tri_range, tri_iG, tri_enum, tri_comp, tri_tupL, tri_tupT, tri_pure, tri_bind, tri_need, tri_lim, vw, allM, Sl.see, isSto, ixN, atI, SM.all, dLen1]
  simp only [tri_mix]
  simp [tri_runF, triF_seq, triF_nx, triF_rt, triF_bk, triF_ct, triF_ret, triF_if, triF_asg, triF_new, triF_setS, triF_setSt, triF_for, aft_nx, aft_rt, aft_rf, fin_rt, fin_rf, triF_retO, fin_nx, tri_fC, tri_gVar, tri_f2, tri_f1, tri_fL, tri_aN, tri_aC, tri_fTup, tri_lDis, tri_fNew, tri_fNot, tri_fAnd, tri_fOr, tri_fIf, tri_fCh, tri_tT, tri_t2, tri_tYes, tri_tNo, tri_tAnd, tri_tOr, tri_asB, tri_truB, tri_truI, tri_truL, tri_truT, tri_truN, tri_add, tri_sub, tri_lt, tri_le, tri_gt, tri_ge, tri_mod, tri_div, tri_pow, tri_mul, tri_int, tri_len, tri_min, tri_max, tri_eqI, tri_ixL, tri_ixT, tri_ixC, tri_ixS, tri_iSeq, tri_itsL, tri_itsT, tri_itsC, tri_iRan, tri_range, tri_iG, tri_enum, tri_comp, tri_tupL, tri_tupT, tri_pure, tri_bind, tri_need, tri_lim, vw, allM, Sl.see, isSto, ixN, atI, SM.all, dLen1]
  have leaf : ∀ z : Int, 2 ≤ k → 0 ≤ z % k ∧ (z % k < k ∨ z % k = 0) := fun z h => ⟨Int.emod_nonneg _ (by omega), Or.inl (Int.emod_lt_of_pos _ (by omega))⟩
  by_cases h1 : k < 2
  · rw [if_pos h1]; exact ⟨_, _, _, _, _, _, rfl, ha⟩
  rw [if_neg h1]
  have hk' : k < 18446744073709551616 := hk
  have tail : ∀ a b c d e f : Int, 0 ≤ a → (if 0 < b then
          0 < k ∧
            (0 < k ∧ k < 18446744073709551616) ∧
              SI { cs := cs, xs := [a, b / k, c, d, e, f] } ∧ 0 ≤ b % k ∧ (b % k < k ∨ b % k = 0)
        else
          if 0 < d then
            0 < k ∧
              SI { cs := cs, xs := [a, b, c, d - 1, e, f + 1] } ∧
                0 ≤ mixF c (f + 1) / 8 % k ∧ (mixF c (f + 1) / 8 % k < k ∨ mixF c (f + 1) / 8 % k = 0)
          else
            0 < k ∧
              SI { cs := cs, xs := [a, b, c, d, e, f + 1] } ∧
                0 ≤ mixF e (f + 1) / 8 % k ∧ (mixF e (f + 1) / 8 % k < k ∨ mixF e (f + 1) / 8 % k = 0)) := fun a b c d e f ha => by
    split
    · exact ⟨by omega, ⟨by omega, hk'⟩, ⟨_, _, _, _, _, _, rfl, ha⟩, leaf _ (by omega)⟩
    · split
      · exact ⟨by omega, ⟨_, _, _, _, _, _, rfl, ha⟩, leaf _ (by omega)⟩
      · exact ⟨by omega, ⟨_, _, _, _, _, _, rfl, ha⟩, leaf _ (by omega)⟩
  by_cases hb : b < 1
  · rw [if_pos hb]
    by_cases hd : d < 1
    · rw [if_pos hd]
      by_cases hc : a < (cs.length : Int)
      · rw [if_pos hc]
        simp only [if_pos ha, if_pos hc]
        have hlt : a.toNat < cs.length := by omega
        refine ⟨.int cs[a.toNat], by simp [hlt], ?_⟩
        rw [tri_mix]
        simp [tri_runF, triF_seq, triF_nx, triF_rt, triF_bk, triF_ct, triF_ret, triF_if, triF_asg, triF_new, triF_setS, triF_setSt, triF_for, aft_nx, aft_rt, aft_rf, fin_rt, fin_rf, triF_retO, fin_nx, tri_fC, tri_gVar, tri_f2, tri_f1, tri_fL, tri_aN, tri_aC, tri_fTup, tri_lDis, tri_fNew, tri_fNot, tri_fAnd, tri_fOr, tri_fIf, tri_fCh, tri_tT, tri_t2, tri_tYes, tri_tNo, tri_tAnd, tri_tOr, tri_asB, tri_truB, tri_truI, tri_truL, tri_truT, tri_truN, tri_add, tri_sub, tri_lt, tri_le, tri_gt, tri_ge, tri_mod, tri_div, tri_pow, tri_mul, tri_int, tri_len, tri_min, tri_max, tri_eqI, tri_ixL, tri_ixT, tri_ixC, tri_ixS, tri_iSeq, tri_itsL, tri_itsT, tri_itsC, tri_iRan, tri_range, tri_iG, tri_enum, tri_comp, tri_tupL, tri_tupT, tri_pure, tri_bind, tri_need, tri_lim, vw, allM, Sl.see, isSto, ixN, atI, SM.all, dLen1]
        simp only [tri_mix]
        simp [tri_runF, triF_seq, triF_nx, triF_rt, triF_bk, triF_ct, triF_ret, triF_if, triF_asg, triF_new, triF_setS, triF_setSt, triF_for, aft_nx, aft_rt, aft_rf, fin_rt, fin_rf, triF_retO, fin_nx, tri_fC, tri_gVar, tri_f2, tri_f1, tri_fL, tri_aN, tri_aC, tri_fTup, tri_lDis, tri_fNew, tri_fNot, tri_fAnd, tri_fOr, tri_fIf, tri_fCh, tri_tT, tri_t2, tri_tYes, tri_tNo, tri_tAnd, tri_tOr, tri_asB, tri_truB, tri_truI, tri_truL, tri_truT, tri_truN, tri_add, tri_sub, tri_lt, tri_le, tri_gt, tri_ge, tri_mod, tri_div, tri_pow, tri_mul, tri_int, tri_len, tri_min, tri_max, tri_eqI, tri_ixL, tri_ixT, tri_ixC, tri_ixS, tri_iSeq, tri_itsL, tri_itsT, tri_itsC, tri_iRan, tri_range, tri_iG, tri_enum, tri_comp, tri_tupL, tri_tupT, tri_pure, tri_bind, tri_need, tri_lim, vw, allM, Sl.see, isSto, ixN, atI, SM.all, dLen1]
        by_cases h18 : 1000000000000000000 ≤ cs[a.toNat]
        · simp only [h18]
          simp [tri_runF, triF_seq, triF_nx, triF_rt, triF_bk, triF_ct, triF_ret, triF_if, triF_asg, triF_new, triF_setS, triF_setSt, triF_for, aft_nx, aft_rt, aft_rf, fin_rt, fin_rf, triF_retO, fin_nx, tri_fC, tri_gVar, tri_f2, tri_f1, tri_fL, tri_aN, tri_aC, tri_fTup, tri_lDis, tri_fNew, tri_fNot, tri_fAnd, tri_fOr, tri_fIf, tri_fCh, tri_tT, tri_t2, tri_tYes, tri_tNo, tri_tAnd, tri_tOr, tri_asB, tri_truB, tri_truI, tri_truL, tri_truT, tri_truN, tri_add, tri_sub, tri_lt, tri_le, tri_gt, tri_ge, tri_mod, tri_div, tri_pow, tri_mul, tri_int, tri_len, tri_min, tri_max, tri_eqI, tri_ixL, tri_ixT, tri_ixC, tri_ixS, tri_iSeq, tri_itsL, tri_itsT, tri_itsC, tri_iRan, tri_range, tri_iG, tri_enum, tri_comp, tri_tupL, tri_tupT, tri_pure, tri_bind, tri_need, tri_lim, vw, allM, Sl.see, isSto, ixN, atI, SM.all, dLen1]
          have := tail (a + 1) cs[a.toNat] c d (mixF cs[a.toNat] (e + 1)) f (by omega)
          simpa using this
        · simp only [h18]
          simp [tri_runF, triF_seq, triF_nx, triF_rt, triF_bk, triF_ct, triF_ret, triF_if, triF_asg, triF_new, triF_setS, triF_setSt, triF_for, aft_nx, aft_rt, aft_rf, fin_rt, fin_rf, triF_retO, fin_nx, tri_fC, tri_gVar, tri_f2, tri_f1, tri_fL, tri_aN, tri_aC, tri_fTup, tri_lDis, tri_fNew, tri_fNot, tri_fAnd, tri_fOr, tri_fIf, tri_fCh, tri_tT, tri_t2, tri_tYes, tri_tNo, tri_tAnd, tri_tOr, tri_asB, tri_truB, tri_truI, tri_truL, tri_truT, tri_truN, tri_add, tri_sub, tri_lt, tri_le, tri_gt, tri_ge, tri_mod, tri_div, tri_pow, tri_mul, tri_int, tri_len, tri_min, tri_max, tri_eqI, tri_ixL, tri_ixT, tri_ixC, tri_ixS, tri_iSeq, tri_itsL, tri_itsT, tri_itsC, tri_iRan, tri_range, tri_iG, tri_enum, tri_comp, tri_tupL, tri_tupT, tri_pure, tri_bind, tri_need, tri_lim, vw, allM, Sl.see, isSto, ixN, atI, SM.all, dLen1]
          have := tail (a + 1) b cs[a.toNat] 3 (mixF cs[a.toNat] (e + 1)) f (by omega)
          simpa using this
      · rw [if_neg hc]; exact tail a b c d e f ha
    · rw [if_neg hd]; exact tail a b c d e f ha
  · rw [if_neg hb]; exact tail a b c d e f ha
end Hd
set_option Elab.async false
set_option linter.all false
set_option maxRecDepth 100000
set_option maxHeartbeats 4000000
namespace Den
open PySem PySem.Spec PyProof.Rows L2
section
variable {m : SM} {P : D → SM → Prop} {i j : Int}
theorem tri_neI : Tri (dNe (.int i) (.int j)) m P ↔ P (.bl (!decide (i = j))) m := by
  unfold dNe dEqB D.py
  have h : (SeqAt.shaped (PyData.int i) && SeqAt.shaped (PyData.int j)) = true := by simp [SeqAt.shaped, PyData.canLay0, PyData.depth]
  simp only [h, if_true, PyData.eqv]
  unfold Tri; exact Iff.rfl
theorem scal_ints : ∀ ks : List Int, (ks.map D.int).all D.scal = true
  | [] => rfl
  | k :: ks => by rw [List.map_cons, List.all_cons, scal_ints ks]; rfl
theorem any_ints (k : Int) : ∀ ks : List Int, ((ks.map D.int).any fun z => z.eqs (.int k)) = decide (k ∈ ks)
  | [] => rfl
  | z :: ks => by
    rw [List.map_cons, List.any_cons, any_ints k ks]
    show ((z == k) || decide (k ∈ ks)) = _
    by_cases h : z = k
    · simp [h]
    · simp [h, Ne.symm h]
theorem tri_inT {k : Int} {ks : List Int} : Tri (dIn (.int k) (.tup (ks.map .int))) m P ↔ P (.bl (decide (k ∈ ks))) m := by
  unfold dIn dInB D.its
  simp only [scal_ints, D.scal, Bool.and_self, if_true, any_ints]
  unfold Tri; exact Iff.rfl
theorem bools_map : ∀ bs : List Bool, D.bools (bs.map .bl) = some bs
  | [] => rfl
  | b :: bs => by rw [List.map_cons, D.bools, bools_map bs]; rfl
theorem tri_any {bs : List Bool} : Tri (dAny [.lst (bs.map .bl)]) m P ↔ P (.bl (bs.any id)) m := by
  simp only [dAny, bools_map, tri_ofO]; simp
theorem tri_all {bs : List Bool} : Tri (dAll [.lst (bs.map .bl)]) m P ↔ P (.bl (bs.all id)) m := by
  simp only [dAll, bools_map, tri_ofO]; simp
end
section
variable {m : SM} {P : Fl → SM → Prop} {ρ : SV}
theorem triF_app {i : Nat} {mk : List Bool} {F : EV → M D} : TriF (gApp i mk F ρ) m P ↔ ∃ xs, ρ[i]? = some (.ow xs) ∧ Tri (F (vw mk ρ)) m fun d m => (mk.isEmpty || d.flat) = true ∧ xs.length + 1 ≤ 16777216 ∧ P (.nx (ρ.set i (.ow (xs ++ [d])))) m := by
  unfold gApp
  cases e : ρ[i]? with
  | none => simp [TriF]
  | some sl =>
    cases sl with
    | ow xs => simp only [triF_exB, triF_need, triF_lim, triF_nx]; simp
    | _ => simp [TriF]
end
end Den
namespace Hd
open PySem PySem.Spec PyProof.Rows L2 Den
theorem take_at {m : SM} {k : Int} {P : D → SM → Prop} (hm : SI m) (hk : k < 2 ^ 64) (h : ∀ m' z, SI m' → 0 ≤ z → (z < k ∨ z = 0) → P (.int z) m') : Tri (den__law_take [.sto, .int k]) m P :=
  (take_run m hm k hk).mono fun r m' ⟨h1, z, e, h2, h3⟩ => by subst e; exact h m' z h1 h2 h3
/-- a lot below w -/
def IsLot (w : Int) (d : D) : Prop := ∃ ks : List Int, d = .tup (ks.map .int) ∧ (∀ k ∈ ks, 0 ≤ k ∧ k < w) ∧ ks.length ≤ 1000
theorem ints_of {p : Int → Prop} : ∀ {ys : List D}, (∀ y ∈ ys, ∃ k : Int, y = .int k ∧ p k) → ∃ ks : List Int, ys = ks.map .int ∧ ∀ k ∈ ks, p k
  | [], _ => ⟨[], rfl, by simp⟩
  | y :: ys, h => by
    obtain ⟨k, e, hk⟩ := h y (by simp)
    obtain ⟨ks, e2, hks⟩ := ints_of (ys := ys) fun z hz => h z (by simp [hz])
    exact ⟨k :: ks, by rw [e, e2]; rfl, fun z hz => (List.mem_cons.mp hz).elim (fun q => by rw [q]; exact hk) (hks z)⟩
theorem lot_of {n : Int} {ys : List D} (hl : ys.length ≤ 1000) (h : ∀ y ∈ ys, ∃ d ∈ (List.range n.toNat).map (fun i => D.int (i : Nat)), y = d) : IsLot n (.tup ys) := by
  obtain ⟨ks, e, hk⟩ := ints_of (p := fun k => 0 ≤ k ∧ k < n) (ys := ys) fun y hy => by
    obtain ⟨d, hd, e⟩ := h y hy
    obtain ⟨i, hi, e2⟩ := List.mem_map.mp hd
    have := List.mem_range.mp hi
    exact ⟨i, by rw [e, e2], by omega, by omega⟩
  exact ⟨ks, by rw [e], hk, by rw [e] at hl; simpa using hl⟩
theorem lot_comp {ρ : EV} {C : EV → M Bool} {n : Int} {j : Nat} {m : SM} {P : List D → SM → Prop} (hm : SI m) (hj : j < ρ.length) (hn : n ≤ 1000) (hC : ∀ (i : Nat) m, SI m → i < n.toNat → Tri (C (ρ.set j (some (.int i)))) m fun _ m' => SI m')
    (h : ∀ ds m', SI m' → IsLot n (.tup ds) → P ds m') : Tri (compL (eName j) C (gVar j) ρ ((List.range n.toNat).map fun i => D.int (i : Nat))) m P := by
  refine tri_compE SI (fun d y => y = d) false _ hm (fun d hd m hm => ?_) fun ys m' h1 hl _ h2 => h ys m' h1 (lot_of (by simp at hl; omega) h2)
  obtain ⟨i, hi, e⟩ := List.mem_map.mp hd
  subst e
  refine ⟨_, rfl, (hC i m hm (List.mem_range.mp hi)).mono fun b m' hb => ?_⟩
  by_cases hh : b = true
  · rw [if_pos hh, tri_gVar]
    exact ⟨_, List.getElem?_set_self hj, rfl, hb⟩
  · rw [if_neg hh]; exact ⟨rfl, hb⟩
theorem lot_run {m : SM} {n : Int} {P : D → SM → Prop} (hm : SI m) (h0 : 0 ≤ n) (hn : n ≤ 1000) (h : ∀ m' d, SI m' → IsLot n d → P d m') : Tri (den__law_lot [.sto, .int n]) m P := by
  unfold den__law_lot
  simp [tri_runF, triF_seq, triF_nx, triF_rt, triF_bk, triF_ct, triF_ret, triF_if, triF_asg, triF_new, triF_setS, triF_setSt, triF_for, aft_nx, aft_rt, aft_rf, fin_rt, fin_rf, triF_retO, fin_nx, tri_fC, tri_gVar, tri_f2, tri_f1, tri_fL, tri_aN, tri_aC, tri_fTup, tri_lDis, tri_fNew, tri_fNot, tri_fAnd, tri_fOr, tri_fIf, tri_fCh, tri_tT, tri_t2, tri_tYes, tri_tNo, tri_tAnd, tri_tOr, tri_asB, tri_truB, tri_truI, tri_truL, tri_truT, tri_truN, tri_add, tri_sub, tri_lt, tri_le, tri_gt, tri_ge, tri_mod, tri_div, tri_pow, tri_mul, tri_int, tri_len, tri_min, tri_max, tri_eqI, tri_ixL, tri_ixT, tri_ixC, tri_ixS, tri_iSeq, tri_itsL, tri_itsT, tri_itsC, tri_iRan, tri_range, tri_iG, tri_enum, tri_comp, tri_tupL, tri_tupT, tri_pure, tri_bind, tri_need, tri_lim, vw, allM, Sl.see, isSto, ixN, atI, SM.all, dLen1]
  refine take_at hm (by decide) fun m1 z h1 h2 h3 => ?_
  simp [tri_runF, triF_seq, triF_nx, triF_rt, triF_bk, triF_ct, triF_ret, triF_if, triF_asg, triF_new, triF_setS, triF_setSt, triF_for, aft_nx, aft_rt, aft_rf, fin_rt, fin_rf, triF_retO, fin_nx, tri_fC, tri_gVar, tri_f2, tri_f1, tri_fL, tri_aN, tri_aC, tri_fTup, tri_lDis, tri_fNew, tri_fNot, tri_fAnd, tri_fOr, tri_fIf, tri_fCh, tri_tT, tri_t2, tri_tYes, tri_tNo, tri_tAnd, tri_tOr, tri_asB, tri_truB, tri_truI, tri_truL, tri_truT, tri_truN, tri_add, tri_sub, tri_lt, tri_le, tri_gt, tri_ge, tri_mod, tri_div, tri_pow, tri_mul, tri_int, tri_len, tri_min, tri_max, tri_eqI, tri_ixL, tri_ixT, tri_ixC, tri_ixS, tri_iSeq, tri_itsL, tri_itsT, tri_itsC, tri_iRan, tri_range, tri_iG, tri_enum, tri_comp, tri_tupL, tri_tupT, tri_pure, tri_bind, tri_need, tri_lim, vw, allM, Sl.see, isSto, ixN, atI, SM.all, dLen1]
  split
  · exact h m1 _ h1 ⟨[], rfl, by simp, by simp⟩
  split
  · refine ⟨by omega, by omega, lot_comp h1 (by simp) hn ?_ ?_⟩
    · intro i m hm hi; simp [tri_runF, triF_seq, triF_nx, triF_rt, triF_bk, triF_ct, triF_ret, triF_if, triF_asg, triF_new, triF_setS, triF_setSt, triF_for, aft_nx, aft_rt, aft_rf, fin_rt, fin_rf, triF_retO, fin_nx, tri_fC, tri_gVar, tri_f2, tri_f1, tri_fL, tri_aN, tri_aC, tri_fTup, tri_lDis, tri_fNew, tri_fNot, tri_fAnd, tri_fOr, tri_fIf, tri_fCh, tri_tT, tri_t2, tri_tYes, tri_tNo, tri_tAnd, tri_tOr, tri_asB, tri_truB, tri_truI, tri_truL, tri_truT, tri_truN, tri_add, tri_sub, tri_lt, tri_le, tri_gt, tri_ge, tri_mod, tri_div, tri_pow, tri_mul, tri_int, tri_len, tri_min, tri_max, tri_eqI, tri_ixL, tri_ixT, tri_ixC, tri_ixS, tri_iSeq, tri_itsL, tri_itsT, tri_itsC, tri_iRan, tri_range, tri_iG, tri_enum, tri_comp, tri_tupL, tri_tupT, tri_pure, tri_bind, tri_need, tri_lim, vw, allM, Sl.see, isSto, ixN, atI, SM.all, dLen1]; exact hm
    · exact fun ds m' q1 q2 => h m' _ q1 q2
  have rest : ∀ (m : SM) (z d : Int), SI m → (if z = 2 then
          (-4611686018427387904 ≤ n ∧ n < 4611686018427387904) ∧
            n ≤ 16777216 ∧
              Tri
                (compL (eName 4) (t2 dEq (gVar 4) (gVar 3)) (gVar 4)
                  [some D.sto, some (D.int n), some (D.int z), some (D.int d), none]
                  (List.map (fun i : Nat => D.int (i : Int)) (List.range n.toNat)))
                m fun ds m => P (D.tup ds) m
        else
          if z = 3 then
            (-4611686018427387904 ≤ n ∧ n < 4611686018427387904) ∧
              n ≤ 16777216 ∧
                Tri
                  (compL (eName 4) (t2 dNe (gVar 4) (gVar 3)) (gVar 4)
                    [some D.sto, some (D.int n), some (D.int z), some (D.int d), none]
                    (List.map (fun i : Nat => D.int (i : Int)) (List.range n.toNat)))
                  m fun ds m => P (D.tup ds) m
          else
            (-4611686018427387904 ≤ n ∧ n < 4611686018427387904) ∧
              n ≤ 16777216 ∧
                Tri
                  (compL (eName 4) (t2 dEq (fL den__law_take (aC (gVar 0) (aC (fC (D.int 2)) aN))) (fC (D.int 1)))
                    (gVar 4) [some D.sto, some (D.int n), some (D.int z), some (D.int d), none]
                    (List.map (fun i : Nat => D.int (i : Int)) (List.range n.toNat)))
                  m fun ds m => P (D.tup ds) m) := fun m z d hm => by
    split
    · refine ⟨by omega, by omega, lot_comp hm (by simp) hn ?_ ?_⟩
      · intro i m hm hi; simp [tri_runF, triF_seq, triF_nx, triF_rt, triF_bk, triF_ct, triF_ret, triF_if, triF_asg, triF_new, triF_setS, triF_setSt, triF_for, aft_nx, aft_rt, aft_rf, fin_rt, fin_rf, triF_retO, fin_nx, tri_fC, tri_gVar, tri_f2, tri_f1, tri_fL, tri_aN, tri_aC, tri_fTup, tri_lDis, tri_fNew, tri_fNot, tri_fAnd, tri_fOr, tri_fIf, tri_fCh, tri_tT, tri_t2, tri_tYes, tri_tNo, tri_tAnd, tri_tOr, tri_asB, tri_truB, tri_truI, tri_truL, tri_truT, tri_truN, tri_add, tri_sub, tri_lt, tri_le, tri_gt, tri_ge, tri_mod, tri_div, tri_pow, tri_mul, tri_int, tri_len, tri_min, tri_max, tri_eqI, tri_ixL, tri_ixT, tri_ixC, tri_ixS, tri_iSeq, tri_itsL, tri_itsT, tri_itsC, tri_iRan, tri_range, tri_iG, tri_enum, tri_comp, tri_tupL, tri_tupT, tri_pure, tri_bind, tri_need, tri_lim, vw, allM, Sl.see, isSto, ixN, atI, SM.all, dLen1]; exact hm
      · exact fun ds m' q1 q2 => h m' _ q1 q2
    split
    · refine ⟨by omega, by omega, lot_comp hm (by simp) hn ?_ ?_⟩
      · intro i m hm hi; simp [tri_runF, triF_seq, triF_nx, triF_rt, triF_bk, triF_ct, triF_ret, triF_if, triF_asg, triF_new, triF_setS, triF_setSt, triF_for, aft_nx, aft_rt, aft_rf, fin_rt, fin_rf, triF_retO, fin_nx, tri_fC, tri_gVar, tri_f2, tri_f1, tri_fL, tri_aN, tri_aC, tri_fTup, tri_lDis, tri_fNew, tri_fNot, tri_fAnd, tri_fOr, tri_fIf, tri_fCh, tri_tT, tri_t2, tri_tYes, tri_tNo, tri_tAnd, tri_tOr, tri_asB, tri_truB, tri_truI, tri_truL, tri_truT, tri_truN, tri_add, tri_sub, tri_lt, tri_le, tri_gt, tri_ge, tri_mod, tri_div, tri_pow, tri_mul, tri_int, tri_len, tri_min, tri_max, tri_eqI, tri_ixL, tri_ixT, tri_ixC, tri_ixS, tri_iSeq, tri_itsL, tri_itsT, tri_itsC, tri_iRan, tri_range, tri_iG, tri_enum, tri_comp, tri_tupL, tri_tupT, tri_pure, tri_bind, tri_need, tri_lim, vw, allM, Sl.see, isSto, ixN, atI, SM.all, dLen1]; simp only [tri_neI]; simp [tri_runF, triF_seq, triF_nx, triF_rt, triF_bk, triF_ct, triF_ret, triF_if, triF_asg, triF_new, triF_setS, triF_setSt, triF_for, aft_nx, aft_rt, aft_rf, fin_rt, fin_rf, triF_retO, fin_nx, tri_fC, tri_gVar, tri_f2, tri_f1, tri_fL, tri_aN, tri_aC, tri_fTup, tri_lDis, tri_fNew, tri_fNot, tri_fAnd, tri_fOr, tri_fIf, tri_fCh, tri_tT, tri_t2, tri_tYes, tri_tNo, tri_tAnd, tri_tOr, tri_asB, tri_truB, tri_truI, tri_truL, tri_truT, tri_truN, tri_add, tri_sub, tri_lt, tri_le, tri_gt, tri_ge, tri_mod, tri_div, tri_pow, tri_mul, tri_int, tri_len, tri_min, tri_max, tri_eqI, tri_ixL, tri_ixT, tri_ixC, tri_ixS, tri_iSeq, tri_itsL, tri_itsT, tri_itsC, tri_iRan, tri_range, tri_iG, tri_enum, tri_comp, tri_tupL, tri_tupT, tri_pure, tri_bind, tri_need, tri_lim, vw, allM, Sl.see, isSto, ixN, atI, SM.all, dLen1]; exact hm
      · exact fun ds m' q1 q2 => h m' _ q1 q2
    · refine ⟨by omega, by omega, lot_comp hm (by simp) hn ?_ ?_⟩
      · intro i m hm hi; simp [tri_runF, triF_seq, triF_nx, triF_rt, triF_bk, triF_ct, triF_ret, triF_if, triF_asg, triF_new, triF_setS, triF_setSt, triF_for, aft_nx, aft_rt, aft_rf, fin_rt, fin_rf, triF_retO, fin_nx, tri_fC, tri_gVar, tri_f2, tri_f1, tri_fL, tri_aN, tri_aC, tri_fTup, tri_lDis, tri_fNew, tri_fNot, tri_fAnd, tri_fOr, tri_fIf, tri_fCh, tri_tT, tri_t2, tri_tYes, tri_tNo, tri_tAnd, tri_tOr, tri_asB, tri_truB, tri_truI, tri_truL, tri_truT, tri_truN, tri_add, tri_sub, tri_lt, tri_le, tri_gt, tri_ge, tri_mod, tri_div, tri_pow, tri_mul, tri_int, tri_len, tri_min, tri_max, tri_eqI, tri_ixL, tri_ixT, tri_ixC, tri_ixS, tri_iSeq, tri_itsL, tri_itsT, tri_itsC, tri_iRan, tri_range, tri_iG, tri_enum, tri_comp, tri_tupL, tri_tupT, tri_pure, tri_bind, tri_need, tri_lim, vw, allM, Sl.see, isSto, ixN, atI, SM.all, dLen1]
        refine take_at hm (by decide) fun m2 y g1 g2 g3 => ?_
        simp [tri_runF, triF_seq, triF_nx, triF_rt, triF_bk, triF_ct, triF_ret, triF_if, triF_asg, triF_new, triF_setS, triF_setSt, triF_for, aft_nx, aft_rt, aft_rf, fin_rt, fin_rf, triF_retO, fin_nx, tri_fC, tri_gVar, tri_f2, tri_f1, tri_fL, tri_aN, tri_aC, tri_fTup, tri_lDis, tri_fNew, tri_fNot, tri_fAnd, tri_fOr, tri_fIf, tri_fCh, tri_tT, tri_t2, tri_tYes, tri_tNo, tri_tAnd, tri_tOr, tri_asB, tri_truB, tri_truI, tri_truL, tri_truT, tri_truN, tri_add, tri_sub, tri_lt, tri_le, tri_gt, tri_ge, tri_mod, tri_div, tri_pow, tri_mul, tri_int, tri_len, tri_min, tri_max, tri_eqI, tri_ixL, tri_ixT, tri_ixC, tri_ixS, tri_iSeq, tri_itsL, tri_itsT, tri_itsC, tri_iRan, tri_range, tri_iG, tri_enum, tri_comp, tri_tupL, tri_tupT, tri_pure, tri_bind, tri_need, tri_lim, vw, allM, Sl.see, isSto, ixN, atI, SM.all, dLen1]; exact g1
      · exact fun ds m' q1 q2 => h m' _ q1 q2
  split
  · exact take_at h1 (by omega) fun m2 y g1 g2 g3 => rest m2 z y g1
  · exact rest m1 z 0 h1
end Hd
set_option Elab.async false
set_option linter.all false
set_option maxRecDepth 100000
set_option maxHeartbeats 4000000
namespace Hd
open PySem PySem.Spec PyProof.Rows L2 Den
/-- a grid, by its rows -/
def gridD (h w : Nat) (rows : List (List Bool)) : D := .tup [.str "table", .int h, .int w, .tup (rows.map fun r => .tup (r.map .bl))]
structure IsGrid (h w : Nat) (d : D) : Prop where
  ex : ∃ rows : List (List Bool), rows.length = h ∧ (∀ r ∈ rows, r.length = w) ∧ d = gridD h w rows
def toI : D → Option Int
  | .int i => some i
  | _ => none
def intsOf : D → List Int
  | .tup xs => xs.filterMap toI
  | _ => []
theorem intsOf_tup (ks : List Int) : intsOf (.tup (ks.map .int)) = ks := by
  show (ks.map D.int).filterMap toI = ks
  induction ks with
  | nil => rfl
  | cons k ks ih => rw [List.map_cons, List.filterMap_cons]; show k :: _ = _; rw [ih]
def rowOf (w : Nat) (d : D) : List Bool := (List.range w).map fun i : Nat => decide ((i : Int) ∈ intsOf d)
theorem tri_inL {k : Int} {d : D} {m : SM} {P : D → SM → Prop} (h : d = .tup ((intsOf d).map .int)) : Tri (dIn (.int k) d) m P ↔ P (.bl (decide (k ∈ intsOf d))) m := by
  have q := tri_inT (k := k) (ks := intsOf d) (m := m) (P := P)
  rw [← h] at q
  exact q
theorem IsLot.its {w : Int} {d : D} (h : IsLot w d) : d = .tup ((intsOf d).map .int) := by
  obtain ⟨ks, e, _, _⟩ := h
  rw [e, intsOf_tup]
theorem of_run {m : SM} {L : List D} {w : Nat} {P : D → SM → Prop} (hL : ∀ d ∈ L, d = .tup ((intsOf d).map .int)) (hl : L.length ≤ 1000) (hw : w ≤ 1000) (h : P (gridD L.length w (L.map (rowOf w))) m) : Tri (den__law_of [.lst L, .int w]) m P := by
  unfold den__law_of
  simp [tri_runF, triF_seq, triF_nx, triF_rt, triF_bk, triF_ct, triF_ret, triF_if, triF_asg, triF_new, triF_setS, triF_setSt, triF_for, aft_nx, aft_rt, aft_rf, fin_rt, fin_rf, triF_retO, fin_nx, tri_fC, tri_gVar, tri_f2, tri_f1, tri_fL, tri_aN, tri_aC, tri_fTup, tri_lDis, tri_fNew, tri_fNot, tri_fAnd, tri_fOr, tri_fIf, tri_fCh, tri_tT, tri_t2, tri_tYes, tri_tNo, tri_tAnd, tri_tOr, tri_asB, tri_truB, tri_truI, tri_truL, tri_truT, tri_truN, tri_add, tri_sub, tri_lt, tri_le, tri_gt, tri_ge, tri_mod, tri_div, tri_pow, tri_mul, tri_int, tri_len, tri_min, tri_max, tri_eqI, tri_ixL, tri_ixT, tri_ixC, tri_ixS, tri_iSeq, tri_itsL, tri_itsT, tri_itsC, tri_iRan, tri_range, tri_iG, tri_enum, tri_comp, tri_tupL, tri_tupT, tri_pure, tri_bind, tri_need, tri_lim, vw, allM, Sl.see, isSto, ixN, atI, SM.all, dLen1]
  refine ⟨rfl, ?_⟩
  refine triF_loop (fun j ρ m' => m' = m ∧ ∃ s3 s4, ρ = [.va (.lst L), .va (.int w), .ow ((L.take j).map fun d => .tup ((rowOf w d).map .bl)), s3, s4]) L 0 _ m ⟨rfl, _, _, rfl⟩ (fun j d ρ m' hd hI => ?_) (fun ρ m' hI => ?_)
  · obtain ⟨e, s3, s4, eρ⟩ := hI
    subst e eρ
    have hj : j < L.length := by
      by_cases hh : j < L.length
      · exact hh
      · rw [List.getElem?_eq_none (by omega)] at hd; cases hd
    have ek := hL d (List.mem_of_getElem? hd)
    refine ⟨_, rfl, ?_⟩
    rw [triF_app]
    refine ⟨_, rfl, ?_⟩
    simp [tri_runF, triF_seq, triF_nx, triF_rt, triF_bk, triF_ct, triF_ret, triF_if, triF_asg, triF_new, triF_setS, triF_setSt, triF_for, aft_nx, aft_rt, aft_rf, fin_rt, fin_rf, triF_retO, fin_nx, tri_fC, tri_gVar, tri_f2, tri_f1, tri_fL, tri_aN, tri_aC, tri_fTup, tri_lDis, tri_fNew, tri_fNot, tri_fAnd, tri_fOr, tri_fIf, tri_fCh, tri_tT, tri_t2, tri_tYes, tri_tNo, tri_tAnd, tri_tOr, tri_asB, tri_truB, tri_truI, tri_truL, tri_truT, tri_truN, tri_add, tri_sub, tri_lt, tri_le, tri_gt, tri_ge, tri_mod, tri_div, tri_pow, tri_mul, tri_int, tri_len, tri_min, tri_max, tri_eqI, tri_ixL, tri_ixT, tri_ixC, tri_ixS, tri_iSeq, tri_itsL, tri_itsT, tri_itsC, tri_iRan, tri_range, tri_iG, tri_enum, tri_comp, tri_tupL, tri_tupT, tri_pure, tri_bind, tri_need, tri_lim, vw, allM, Sl.see, isSto, ixN, atI, SM.all, dLen1]
    refine ⟨by omega, by omega, ?_⟩
    refine tri_compM (fun d' => match d' with | .int k => .bl (decide (k ∈ intsOf d)) | _ => .non) _ (fun d' hd' => ?_) ?_
    · obtain ⟨i, hi, e⟩ := List.mem_map.mp hd'
      subst e
      refine ⟨_, rfl, ?_⟩
      simp only [tri_f2, tri_gVar]
      refine ⟨_, rfl, _, rfl, ?_⟩
      rw [tri_inL ek]
      exact ⟨rfl, rfl⟩
    · refine ⟨by omega, ?_⟩
      refine ⟨rfl, ?_⟩
      rw [List.take_succ, List.getElem?_map, hd]
      simp [rowOf]
  · obtain ⟨e, s3, s4, eρ⟩ := hI
    subst e eρ
    simp [tri_runF, triF_seq, triF_nx, triF_rt, triF_bk, triF_ct, triF_ret, triF_if, triF_asg, triF_new, triF_setS, triF_setSt, triF_for, aft_nx, aft_rt, aft_rf, fin_rt, fin_rf, triF_retO, fin_nx, tri_fC, tri_gVar, tri_f2, tri_f1, tri_fL, tri_aN, tri_aC, tri_fTup, tri_lDis, tri_fNew, tri_fNot, tri_fAnd, tri_fOr, tri_fIf, tri_fCh, tri_tT, tri_t2, tri_tYes, tri_tNo, tri_tAnd, tri_tOr, tri_asB, tri_truB, tri_truI, tri_truL, tri_truT, tri_truN, tri_add, tri_sub, tri_lt, tri_le, tri_gt, tri_ge, tri_mod, tri_div, tri_pow, tri_mul, tri_int, tri_len, tri_min, tri_max, tri_eqI, tri_ixL, tri_ixT, tri_ixC, tri_ixS, tri_iSeq, tri_itsL, tri_itsT, tri_itsC, tri_iRan, tri_range, tri_iG, tri_enum, tri_comp, tri_tupL, tri_tupT, tri_pure, tri_bind, tri_need, tri_lim, vw, allM, Sl.see, isSto, ixN, atI, SM.all, dLen1]
    simpa [gridD, Function.comp_def] using h
def jn (n : Nat) (L : List D) : List Nat := (List.range n).filter fun k : Nat => L.any fun d => decide ((k : Int) ∈ intsOf d)
theorem jn_succ (n : Nat) (L : List D) : jn (n + 1) L = jn n L ++ if (L.any fun d => decide ((n : Int) ∈ intsOf d)) = true then [n] else [] := by
  unfold jn
  rw [List.range_succ, List.filter_append, List.filter_cons, List.filter_nil]
theorem ran_at {n j : Nat} {d : D} (h : ((List.range n).map fun i : Nat => D.int (i : Int))[j]? = some d) : j < n ∧ d = .int (j : Nat) := by
  rw [List.getElem?_map] at h
  by_cases hh : j < n
  · rw [List.getElem?_range hh] at h
    cases h
    exact ⟨hh, rfl⟩
  · rw [List.getElem?_eq_none (by simpa using hh)] at h; cases h
theorem any_id (L : List D) (p : D → Bool) : (L.map p).any id = L.any p := by rw [List.any_map]; rfl
theorem join_run {m : SM} {L : List D} {P : D → SM → Prop} (hL : ∀ d ∈ L, d = .tup ((intsOf d).map .int)) (hl : L.length ≤ 100000) (h : P (.tup ((jn 6 L).map fun k : Nat => D.int (k : Int))) m) : Tri (den__law_join [.lst L]) m P := by
  unfold den__law_join
  simp [tri_runF, triF_seq, triF_nx, triF_rt, triF_bk, triF_ct, triF_ret, triF_if, triF_asg, triF_new, triF_setS, triF_setSt, triF_for, aft_nx, aft_rt, aft_rf, fin_rt, fin_rf, triF_retO, fin_nx, tri_fC, tri_gVar, tri_f2, tri_f1, tri_fL, tri_aN, tri_aC, tri_fTup, tri_lDis, tri_fNew, tri_fNot, tri_fAnd, tri_fOr, tri_fIf, tri_fCh, tri_tT, tri_t2, tri_tYes, tri_tNo, tri_tAnd, tri_tOr, tri_asB, tri_truB, tri_truI, tri_truL, tri_truT, tri_truN, tri_add, tri_sub, tri_lt, tri_le, tri_gt, tri_ge, tri_mod, tri_div, tri_pow, tri_mul, tri_int, tri_len, tri_min, tri_max, tri_eqI, tri_ixL, tri_ixT, tri_ixC, tri_ixS, tri_iSeq, tri_itsL, tri_itsT, tri_itsC, tri_iRan, tri_range, tri_iG, tri_enum, tri_comp, tri_tupL, tri_tupT, tri_pure, tri_bind, tri_need, tri_lim, vw, allM, Sl.see, isSto, ixN, atI, SM.all, dLen1]
  refine ⟨rfl, ?_⟩
  refine triF_loop (fun j ρ m' => m' = m ∧ ∃ s2 s3, ρ = [.va (.lst L), .ow ((jn j L).map fun k : Nat => D.int (k : Int)), s2, s3]) _ 0 _ m ⟨rfl, _, _, rfl⟩ (fun j d ρ m' hd hI => ?_) (fun ρ m' hI => ?_)
  · obtain ⟨e, s2, s3, eρ⟩ := hI
    subst e eρ
    have hr : ((List.range 6).map fun i : Nat => D.int (i : Int))[j]? = some d := hd
    obtain ⟨hj, ed⟩ := ran_at hr
    subst ed
    refine ⟨_, rfl, ?_⟩
    rw [triF_if]
    simp [tri_runF, triF_seq, triF_nx, triF_rt, triF_bk, triF_ct, triF_ret, triF_if, triF_asg, triF_new, triF_setS, triF_setSt, triF_for, aft_nx, aft_rt, aft_rf, fin_rt, fin_rf, triF_retO, fin_nx, tri_fC, tri_gVar, tri_f2, tri_f1, tri_fL, tri_aN, tri_aC, tri_fTup, tri_lDis, tri_fNew, tri_fNot, tri_fAnd, tri_fOr, tri_fIf, tri_fCh, tri_tT, tri_t2, tri_tYes, tri_tNo, tri_tAnd, tri_tOr, tri_asB, tri_truB, tri_truI, tri_truL, tri_truT, tri_truN, tri_add, tri_sub, tri_lt, tri_le, tri_gt, tri_ge, tri_mod, tri_div, tri_pow, tri_mul, tri_int, tri_len, tri_min, tri_max, tri_eqI, tri_ixL, tri_ixT, tri_ixC, tri_ixS, tri_iSeq, tri_itsL, tri_itsT, tri_itsC, tri_iRan, tri_range, tri_iG, tri_enum, tri_comp, tri_tupL, tri_tupT, tri_pure, tri_bind, tri_need, tri_lim, vw, allM, Sl.see, isSto, ixN, atI, SM.all, dLen1]
    refine ⟨by omega, ?_⟩
    refine tri_compM (fun d' => .bl (decide ((j : Int) ∈ intsOf d'))) _ (fun d' hd' => ?_) ?_
    · refine ⟨_, rfl, ?_⟩
      simp only [tri_f2, tri_gVar]
      refine ⟨_, rfl, _, rfl, ?_⟩
      rw [tri_inL (hL d' hd')]
      exact ⟨rfl, rfl⟩
    · have e : L.map (fun d' => D.bl (decide ((j : Int) ∈ intsOf d'))) = (L.map fun d' => decide ((j : Int) ∈ intsOf d')).map .bl := by rw [List.map_map]; rfl
      rw [e, tri_any, tri_truB, any_id]
      have hlen : (jn j L).length ≤ j := by unfold jn; exact Nat.le_trans (List.length_filter_le _ _) (by simp)
      by_cases hb : (L.any fun d => decide ((j : Int) ∈ intsOf d)) = true
      · rw [if_pos hb, triF_app]
        refine ⟨_, rfl, ?_⟩
        simp [tri_runF, triF_seq, triF_nx, triF_rt, triF_bk, triF_ct, triF_ret, triF_if, triF_asg, triF_new, triF_setS, triF_setSt, triF_for, aft_nx, aft_rt, aft_rf, fin_rt, fin_rf, triF_retO, fin_nx, tri_fC, tri_gVar, tri_f2, tri_f1, tri_fL, tri_aN, tri_aC, tri_fTup, tri_lDis, tri_fNew, tri_fNot, tri_fAnd, tri_fOr, tri_fIf, tri_fCh, tri_tT, tri_t2, tri_tYes, tri_tNo, tri_tAnd, tri_tOr, tri_asB, tri_truB, tri_truI, tri_truL, tri_truT, tri_truN, tri_add, tri_sub, tri_lt, tri_le, tri_gt, tri_ge, tri_mod, tri_div, tri_pow, tri_mul, tri_int, tri_len, tri_min, tri_max, tri_eqI, tri_ixL, tri_ixT, tri_ixC, tri_ixS, tri_iSeq, tri_itsL, tri_itsT, tri_itsC, tri_iRan, tri_range, tri_iG, tri_enum, tri_comp, tri_tupL, tri_tupT, tri_pure, tri_bind, tri_need, tri_lim, vw, allM, Sl.see, isSto, ixN, atI, SM.all, dLen1]
        refine ⟨by omega, ?_⟩
        rw [jn_succ, if_pos hb]
        simp
      · rw [if_neg hb]
        simp only [triF_nx]
        exact ⟨trivial, by rw [jn_succ, if_neg hb, List.append_nil]⟩
  · obtain ⟨e, s2, s3, eρ⟩ := hI
    subst e eρ
    simp [tri_runF, triF_seq, triF_nx, triF_rt, triF_bk, triF_ct, triF_ret, triF_if, triF_asg, triF_new, triF_setS, triF_setSt, triF_for, aft_nx, aft_rt, aft_rf, fin_rt, fin_rf, triF_retO, fin_nx, tri_fC, tri_gVar, tri_f2, tri_f1, tri_fL, tri_aN, tri_aC, tri_fTup, tri_lDis, tri_fNew, tri_fNot, tri_fAnd, tri_fOr, tri_fIf, tri_fCh, tri_tT, tri_t2, tri_tYes, tri_tNo, tri_tAnd, tri_tOr, tri_asB, tri_truB, tri_truI, tri_truL, tri_truT, tri_truN, tri_add, tri_sub, tri_lt, tri_le, tri_gt, tri_ge, tri_mod, tri_div, tri_pow, tri_mul, tri_int, tri_len, tri_min, tri_max, tri_eqI, tri_ixL, tri_ixT, tri_ixC, tri_ixS, tri_iSeq, tri_itsL, tri_itsT, tri_itsC, tri_iRan, tri_range, tri_iG, tri_enum, tri_comp, tri_tupL, tri_tupT, tri_pure, tri_bind, tri_need, tri_lim, vw, allM, Sl.see, isSto, ixN, atI, SM.all, dLen1]
    simpa using h
end Hd
set_option Elab.async false
set_option linter.all false
set_option maxRecDepth 100000
set_option maxHeartbeats 4000000
namespace Hd
open PySem PySem.Spec PyProof.Rows L2 Den
theorem IsLot.mem {w : Int} {d : D} (h : IsLot w d) : ∀ k ∈ intsOf d, 0 ≤ k ∧ k < w := by
  obtain ⟨ks, e, hk, _⟩ := h
  rw [e, intsOf_tup]
  exact hk
theorem join_lot {w : Int} {L : List D} (hL : ∀ d ∈ L, IsLot w d) : IsLot w (.tup ((jn 6 L).map fun k : Nat => D.int (k : Int))) := by
  refine ⟨(jn 6 L).map fun k : Nat => (k : Int), by simp, fun k hk => ?_, ?_⟩
  case refine_2 =>
    rw [List.length_map]
    unfold jn
    exact Nat.le_trans (List.length_filter_le _ _) (by simp)
  obtain ⟨n, hn, e⟩ := List.mem_map.mp hk
  obtain ⟨_, h2⟩ := List.mem_filter.mp hn
  obtain ⟨d, hd, h3⟩ := List.any_eq_true.mp h2
  rw [← e]
  exact (hL d hd).mem _ (of_decide_eq_true h3)
theorem nil_lot {w : Int} : IsLot w (.tup []) := ⟨[], rfl, by simp, by simp⟩
theorem pick_at {m : SM} {xs : List D} {P : D → SM → Prop} (hm : SI m) (h0 : xs ≠ []) (hl : xs.length ≤ 1000) (h : ∀ m' d, SI m' → d ∈ xs → P d m') : Tri (den__law_pick [.sto, .lst xs]) m P := by
  have hp : 0 < xs.length := List.length_pos_iff.mpr h0
  unfold den__law_pick
  simp [tri_runF, triF_seq, triF_nx, triF_rt, triF_bk, triF_ct, triF_ret, triF_if, triF_asg, triF_new, triF_setS, triF_setSt, triF_for, aft_nx, aft_rt, aft_rf, fin_rt, fin_rf, triF_retO, fin_nx, tri_fC, tri_gVar, tri_f2, tri_f1, tri_fL, tri_aN, tri_aC, tri_fTup, tri_lDis, tri_fNew, tri_fNot, tri_fAnd, tri_fOr, tri_fIf, tri_fCh, tri_tT, tri_t2, tri_tYes, tri_tNo, tri_tAnd, tri_tOr, tri_asB, tri_truB, tri_truI, tri_truL, tri_truT, tri_truN, tri_add, tri_sub, tri_lt, tri_le, tri_gt, tri_ge, tri_mod, tri_div, tri_pow, tri_mul, tri_int, tri_len, tri_min, tri_max, tri_eqI, tri_ixL, tri_ixT, tri_ixC, tri_ixS, tri_iSeq, tri_itsL, tri_itsT, tri_itsC, tri_iRan, tri_range, tri_iG, tri_enum, tri_comp, tri_tupL, tri_tupT, tri_pure, tri_bind, tri_need, tri_lim, vw, allM, Sl.see, isSto, ixN, atI, SM.all, dLen1]
  rw [if_neg h0]
  refine take_at hm (by omega) fun m1 z h1 h2 h3 => ?_
  rw [tri_ixL, atI_pos h2]
  have hz : z.toNat < xs.length := by omega
  exact ⟨_, List.getElem?_eq_getElem hz, h m1 _ h1 (List.getElem_mem hz)⟩
theorem side_at {m : SM} {n : Int} {P : D → SM → Prop} (hm : SI m) (h0 : 0 ≤ n) (hn : n ≤ 1000) (h : ∀ m' z, SI m' → 0 ≤ z → z ≤ n → P (.int z) m') : Tri (den__law_side [.sto, .int n]) m P := by
  unfold den__law_side
  simp [tri_runF, triF_seq, triF_nx, triF_rt, triF_bk, triF_ct, triF_ret, triF_if, triF_asg, triF_new, triF_setS, triF_setSt, triF_for, aft_nx, aft_rt, aft_rf, fin_rt, fin_rf, triF_retO, fin_nx, tri_fC, tri_gVar, tri_f2, tri_f1, tri_fL, tri_aN, tri_aC, tri_fTup, tri_lDis, tri_fNew, tri_fNot, tri_fAnd, tri_fOr, tri_fIf, tri_fCh, tri_tT, tri_t2, tri_tYes, tri_tNo, tri_tAnd, tri_tOr, tri_asB, tri_truB, tri_truI, tri_truL, tri_truT, tri_truN, tri_add, tri_sub, tri_lt, tri_le, tri_gt, tri_ge, tri_mod, tri_div, tri_pow, tri_mul, tri_int, tri_len, tri_min, tri_max, tri_eqI, tri_ixL, tri_ixT, tri_ixC, tri_ixS, tri_iSeq, tri_itsL, tri_itsT, tri_itsC, tri_iRan, tri_range, tri_iG, tri_enum, tri_comp, tri_tupL, tri_tupT, tri_pure, tri_bind, tri_need, tri_lim, vw, allM, Sl.see, isSto, ixN, atI, SM.all, dLen1]
  refine take_at hm (by decide) fun m1 z h1 h2 h3 => ?_
  simp [tri_runF, triF_seq, triF_nx, triF_rt, triF_bk, triF_ct, triF_ret, triF_if, triF_asg, triF_new, triF_setS, triF_setSt, triF_for, aft_nx, aft_rt, aft_rf, fin_rt, fin_rf, triF_retO, fin_nx, tri_fC, tri_gVar, tri_f2, tri_f1, tri_fL, tri_aN, tri_aC, tri_fTup, tri_lDis, tri_fNew, tri_fNot, tri_fAnd, tri_fOr, tri_fIf, tri_fCh, tri_tT, tri_t2, tri_tYes, tri_tNo, tri_tAnd, tri_tOr, tri_asB, tri_truB, tri_truI, tri_truL, tri_truT, tri_truN, tri_add, tri_sub, tri_lt, tri_le, tri_gt, tri_ge, tri_mod, tri_div, tri_pow, tri_mul, tri_int, tri_len, tri_min, tri_max, tri_eqI, tri_ixL, tri_ixT, tri_ixC, tri_ixS, tri_iSeq, tri_itsL, tri_itsT, tri_itsC, tri_iRan, tri_range, tri_iG, tri_enum, tri_comp, tri_tupL, tri_tupT, tri_pure, tri_bind, tri_need, tri_lim, vw, allM, Sl.see, isSto, ixN, atI, SM.all, dLen1]
  split
  · exact h m1 n h1 (by omega) (by omega)
  split
  · exact take_at h1 (by omega) fun m2 y g1 g2 g3 => h m2 y g1 g2 (by omega)
  · refine take_at h1 ?_ fun m2 y g1 g2 g3 => h m2 y g1 g2 ?_
    · split <;> omega
    · revert g3; split <;> omega
theorem sizes_at {m : SM} {a b : Int} {P : D → SM → Prop} (hm : SI m) (ha : 0 ≤ a ∧ a ≤ 1000) (hb : 0 ≤ b ∧ b ≤ 1000) (h : ∀ m' x y, SI m' → 0 ≤ x ∧ x ≤ a → 0 ≤ y ∧ y ≤ b → P (.lst [.int x, .int y]) m') : Tri (den__law_sizes [.sto, .int a, .int b]) m P := by
  unfold den__law_sizes
  simp [tri_runF, triF_seq, triF_nx, triF_rt, triF_bk, triF_ct, triF_ret, triF_if, triF_asg, triF_new, triF_setS, triF_setSt, triF_for, aft_nx, aft_rt, aft_rf, fin_rt, fin_rf, triF_retO, fin_nx, tri_fC, tri_gVar, tri_f2, tri_f1, tri_fL, tri_aN, tri_aC, tri_fTup, tri_lDis, tri_fNew, tri_fNot, tri_fAnd, tri_fOr, tri_fIf, tri_fCh, tri_tT, tri_t2, tri_tYes, tri_tNo, tri_tAnd, tri_tOr, tri_asB, tri_truB, tri_truI, tri_truL, tri_truT, tri_truN, tri_add, tri_sub, tri_lt, tri_le, tri_gt, tri_ge, tri_mod, tri_div, tri_pow, tri_mul, tri_int, tri_len, tri_min, tri_max, tri_eqI, tri_ixL, tri_ixT, tri_ixC, tri_ixS, tri_iSeq, tri_itsL, tri_itsT, tri_itsC, tri_iRan, tri_range, tri_iG, tri_enum, tri_comp, tri_tupL, tri_tupT, tri_pure, tri_bind, tri_need, tri_lim, vw, allM, Sl.see, isSto, ixN, atI, SM.all, dLen1]
  refine side_at hm ha.1 ha.2 fun m1 z h1 h2 h3 => ?_
  simp [tri_runF, triF_seq, triF_nx, triF_rt, triF_bk, triF_ct, triF_ret, triF_if, triF_asg, triF_new, triF_setS, triF_setSt, triF_for, aft_nx, aft_rt, aft_rf, fin_rt, fin_rf, triF_retO, fin_nx, tri_fC, tri_gVar, tri_f2, tri_f1, tri_fL, tri_aN, tri_aC, tri_fTup, tri_lDis, tri_fNew, tri_fNot, tri_fAnd, tri_fOr, tri_fIf, tri_fCh, tri_tT, tri_t2, tri_tYes, tri_tNo, tri_tAnd, tri_tOr, tri_asB, tri_truB, tri_truI, tri_truL, tri_truT, tri_truN, tri_add, tri_sub, tri_lt, tri_le, tri_gt, tri_ge, tri_mod, tri_div, tri_pow, tri_mul, tri_int, tri_len, tri_min, tri_max, tri_eqI, tri_ixL, tri_ixT, tri_ixC, tri_ixS, tri_iSeq, tri_itsL, tri_itsT, tri_itsC, tri_iRan, tri_range, tri_iG, tri_enum, tri_comp, tri_tupL, tri_tupT, tri_pure, tri_bind, tri_need, tri_lim, vw, allM, Sl.see, isSto, ixN, atI, SM.all, dLen1]
  refine take_at h1 (by decide) fun m2 y g1 g2 g3 => ?_
  simp [tri_runF, triF_seq, triF_nx, triF_rt, triF_bk, triF_ct, triF_ret, triF_if, triF_asg, triF_new, triF_setS, triF_setSt, triF_for, aft_nx, aft_rt, aft_rf, fin_rt, fin_rf, triF_retO, fin_nx, tri_fC, tri_gVar, tri_f2, tri_f1, tri_fL, tri_aN, tri_aC, tri_fTup, tri_lDis, tri_fNew, tri_fNot, tri_fAnd, tri_fOr, tri_fIf, tri_fCh, tri_tT, tri_t2, tri_tYes, tri_tNo, tri_tAnd, tri_tOr, tri_asB, tri_truB, tri_truI, tri_truL, tri_truT, tri_truN, tri_add, tri_sub, tri_lt, tri_le, tri_gt, tri_ge, tri_mod, tri_div, tri_pow, tri_mul, tri_int, tri_len, tri_min, tri_max, tri_eqI, tri_ixL, tri_ixT, tri_ixC, tri_ixS, tri_iSeq, tri_itsL, tri_itsT, tri_itsC, tri_iRan, tri_range, tri_iG, tri_enum, tri_comp, tri_tupL, tri_tupT, tri_pure, tri_bind, tri_need, tri_lim, vw, allM, Sl.see, isSto, ixN, atI, SM.all, dLen1]
  split
  · split <;> exact h m2 _ _ g1 (by omega) (by omega)
  · exact side_at g1 hb.1 hb.2 fun m3 x k1 k2 k3 => by exact h m3 _ _ k1 ⟨h2, h3⟩ ⟨k2, k3⟩
/-- a table turned over, by its rows -/
def trn (w : Nat) (rows : List (List Bool)) : List (List Bool) := (List.range w).map fun k => rows.map fun r => r.getD k false
theorem turn_run {m : SM} {h w : Nat} {rows : List (List Bool)} {P : D → SM → Prop} (hh : rows.length = h) (hr : ∀ r ∈ rows, r.length = w) (h1 : h ≤ 1000) (h2 : w ≤ 1000) (hP : P (gridD w h (trn w rows)) m) : Tri (den__law_turn [gridD h w rows]) m P := by
  unfold den__law_turn
  unfold gridD at hP ⊢
  simp [tri_runF, triF_seq, triF_nx, triF_rt, triF_bk, triF_ct, triF_ret, triF_if, triF_asg, triF_new, triF_setS, triF_setSt, triF_for, aft_nx, aft_rt, aft_rf, fin_rt, fin_rf, triF_retO, fin_nx, tri_fC, tri_gVar, tri_f2, tri_f1, tri_fL, tri_aN, tri_aC, tri_fTup, tri_lDis, tri_fNew, tri_fNot, tri_fAnd, tri_fOr, tri_fIf, tri_fCh, tri_tT, tri_t2, tri_tYes, tri_tNo, tri_tAnd, tri_tOr, tri_asB, tri_truB, tri_truI, tri_truL, tri_truT, tri_truN, tri_add, tri_sub, tri_lt, tri_le, tri_gt, tri_ge, tri_mod, tri_div, tri_pow, tri_mul, tri_int, tri_len, tri_min, tri_max, tri_eqI, tri_ixL, tri_ixT, tri_ixC, tri_ixS, tri_iSeq, tri_itsL, tri_itsT, tri_itsC, tri_iRan, tri_range, tri_iG, tri_enum, tri_comp, tri_tupL, tri_tupT, tri_pure, tri_bind, tri_need, tri_lim, vw, allM, Sl.see, isSto, ixN, atI, SM.all, dLen1]
  refine ⟨rfl, by omega, ?_⟩
  refine triF_loop (fun j ρ m' => m' = m ∧ ∃ s2 s3, ρ = [.va (.tup [.str "table", .int h, .int w, .tup (rows.map fun r => .tup (r.map .bl))]), .ow (((trn w rows).take j).map fun r => .tup (r.map .bl)), s2, s3]) _ 0 _ m ⟨rfl, _, _, rfl⟩ (fun j d ρ m' hd hI => ?_) (fun ρ m' hI => ?_)
  · obtain ⟨e, s2, s3, eρ⟩ := hI
    subst e eρ
    obtain ⟨hj, ed⟩ := ran_at hd
    subst ed
    refine ⟨_, rfl, ?_⟩
    rw [triF_app]
    refine ⟨_, rfl, ?_⟩
    simp [tri_runF, triF_seq, triF_nx, triF_rt, triF_bk, triF_ct, triF_ret, triF_if, triF_asg, triF_new, triF_setS, triF_setSt, triF_for, aft_nx, aft_rt, aft_rf, fin_rt, fin_rf, triF_retO, fin_nx, tri_fC, tri_gVar, tri_f2, tri_f1, tri_fL, tri_aN, tri_aC, tri_fTup, tri_lDis, tri_fNew, tri_fNot, tri_fAnd, tri_fOr, tri_fIf, tri_fCh, tri_tT, tri_t2, tri_tYes, tri_tNo, tri_tAnd, tri_tOr, tri_asB, tri_truB, tri_truI, tri_truL, tri_truT, tri_truN, tri_add, tri_sub, tri_lt, tri_le, tri_gt, tri_ge, tri_mod, tri_div, tri_pow, tri_mul, tri_int, tri_len, tri_min, tri_max, tri_eqI, tri_ixL, tri_ixT, tri_ixC, tri_ixS, tri_iSeq, tri_itsL, tri_itsT, tri_itsC, tri_iRan, tri_range, tri_iG, tri_enum, tri_comp, tri_tupL, tri_tupT, tri_pure, tri_bind, tri_need, tri_lim, vw, allM, Sl.see, isSto, ixN, atI, SM.all, dLen1]
    refine ⟨by omega, ?_⟩
    refine tri_compM (fun d => match d with | .tup xs => (match xs[j]? with | some z => z | none => .non) | _ => .non) _ (fun d hd => ?_) ?_
    · obtain ⟨r, hr', e⟩ := List.mem_map.mp hd
      subst e
      refine ⟨_, rfl, ?_⟩
      simp only [tri_f2, tri_gVar]
      refine ⟨_, rfl, _, rfl, ?_⟩
      rw [tri_ixT, Den.atI_nat]
      have hjr : j < r.length := by rw [hr r hr']; exact hj
      refine ⟨.bl r[j], by simp [hjr], rfl, ?_⟩
      simp [hjr]
    · have hl : (trn w rows).length = w := by simp [trn]
      have hget : (trn w rows)[j]? = some (rows.map fun r => r.getD j false) := by simp [trn, hj]
      refine ⟨by omega, ?_⟩
      refine ⟨rfl, ?_⟩
      rw [List.take_succ, List.getElem?_map, hget, List.map_map]
      simp only [Option.map_some, Option.toList_some]
      congr 3
      rw [List.map_map]
      refine List.map_congr_left fun r hr' => ?_
      have hjr : j < r.length := by rw [hr r hr']; exact hj
      simp [hjr]
  · obtain ⟨e, s2, s3, eρ⟩ := hI
    subst e eρ
    have hl : (trn w rows).length = w := by simp [trn]
    have ht : (trn w rows).take w = trn w rows := List.take_of_length_le (by omega)
    simp [tri_runF, triF_seq, triF_nx, triF_rt, triF_bk, triF_ct, triF_ret, triF_if, triF_asg, triF_new, triF_setS, triF_setSt, triF_for, aft_nx, aft_rt, aft_rf, fin_rt, fin_rf, triF_retO, fin_nx, tri_fC, tri_gVar, tri_f2, tri_f1, tri_fL, tri_aN, tri_aC, tri_fTup, tri_lDis, tri_fNew, tri_fNot, tri_fAnd, tri_fOr, tri_fIf, tri_fCh, tri_tT, tri_t2, tri_tYes, tri_tNo, tri_tAnd, tri_tOr, tri_asB, tri_truB, tri_truI, tri_truL, tri_truT, tri_truN, tri_add, tri_sub, tri_lt, tri_le, tri_gt, tri_ge, tri_mod, tri_div, tri_pow, tri_mul, tri_int, tri_len, tri_min, tri_max, tri_eqI, tri_ixL, tri_ixT, tri_ixC, tri_ixS, tri_iSeq, tri_itsL, tri_itsT, tri_itsC, tri_iRan, tri_range, tri_iG, tri_enum, tri_comp, tri_tupL, tri_tupT, tri_pure, tri_bind, tri_need, tri_lim, vw, allM, Sl.see, isSto, ixN, atI, SM.all, dLen1]
    rw [List.take_of_length_le (by simp [trn])]
    exact hP
end Hd
set_option Elab.async false
set_option linter.all false
set_option maxRecDepth 100000
set_option maxHeartbeats 4000000
namespace Hd
open PySem PySem.Spec PyProof.Rows L2 Den
theorem trn_ok (h w : Nat) (rows : List (List Bool)) (hh : rows.length = h) : (trn w rows).length = w ∧ ∀ r ∈ trn w rows, r.length = h := by
  refine ⟨by simp [trn], fun r hr => ?_⟩
  obtain ⟨k, _, e⟩ := List.mem_map.mp hr
  rw [← e, List.length_map, hh]
theorem turn_at {m : SM} {h w : Nat} {g : D} {P : D → SM → Prop} (hg : IsGrid h w g) (h1 : h ≤ 1000) (h2 : w ≤ 1000) (hP : ∀ d, IsGrid w h d → P d m) : Tri (den__law_turn [g]) m P := by
  have q := hg.ex
  cases q with
  | intro rows q =>
  cases q with
  | intro a q =>
  cases q with
  | intro b e =>
  rw [e]
  exact turn_run a b h1 h2 (hP _ (IsGrid.mk ⟨trn w rows, (trn_ok h w rows a).1, (trn_ok h w rows a).2, rfl⟩))
theorem grid_of (L : List D) (w : Nat) : IsGrid L.length w (gridD L.length w (L.map (rowOf w))) := by
  refine IsGrid.mk ⟨L.map (rowOf w), List.length_map _, ?_, rfl⟩
  intro r hr
  obtain ⟨d, _, e⟩ := List.mem_map.mp hr
  rw [← e, rowOf, List.length_map, List.length_range]
theorem of_at {m : SM} {L : List D} {w : Nat} {P : D → SM → Prop} (hL : ∀ d ∈ L, IsLot w d) (hl : L.length ≤ 1000) (hw : w ≤ 1000) (h : ∀ d, IsGrid L.length w d → P d m) : Tri (den__law_of [.lst L, .int w]) m P := by
  refine of_run ?_ hl hw (h _ (grid_of L w))
  intro d hd
  exact (hL d hd).its
theorem free_at {m : SM} {h w : Nat} {P : D → SM → Prop} (hm : SI m) (h1 : h ≤ 1000) (h2 : w ≤ 1000) (hP : ∀ m' d, SI m' → IsGrid h w d → P d m') : Tri (den__law_free [.sto, .int h, .int w]) m P := by
  unfold den__law_free
  simp [tri_runF, triF_seq, triF_nx, triF_rt, triF_bk, triF_ct, triF_ret, triF_if, triF_asg, triF_new, triF_setS, triF_setSt, triF_for, aft_nx, aft_rt, aft_rf, fin_rt, fin_rf, triF_retO, fin_nx, tri_fC, tri_gVar, tri_f2, tri_f1, tri_fL, tri_aN, tri_aC, tri_fTup, tri_lDis, tri_fNew, tri_fNot, tri_fAnd, tri_fOr, tri_fIf, tri_fCh, tri_tT, tri_t2, tri_tYes, tri_tNo, tri_tAnd, tri_tOr, tri_asB, tri_truB, tri_truI, tri_truL, tri_truT, tri_truN, tri_add, tri_sub, tri_lt, tri_le, tri_gt, tri_ge, tri_mod, tri_div, tri_pow, tri_mul, tri_int, tri_len, tri_min, tri_max, tri_eqI, tri_ixL, tri_ixT, tri_ixC, tri_ixS, tri_iSeq, tri_itsL, tri_itsT, tri_itsC, tri_iRan, tri_range, tri_iG, tri_enum, tri_comp, tri_tupL, tri_tupT, tri_pure, tri_bind, tri_need, tri_lim, vw, allM, Sl.see, isSto, ixN, atI, SM.all, dLen1]
  refine take_at hm (by decide) fun m1 z k1 k2 k3 => ?_
  refine ⟨rfl, by omega, ?_⟩
  refine triF_loop (fun j ρ m' => SI m' ∧ ∃ L s5 s6, L.length = j ∧ (∀ d ∈ L, IsLot w d) ∧ ρ = [.va .sto, .va (.int h), .va (.int w), .va (.int z), .ow L, s5, s6]) _ 0 _ m1 ⟨k1, [], _, _, rfl, by simp, rfl⟩ (fun j d ρ m' hd hI => ?_) (fun ρ m' hI => ?_)
  · obtain ⟨hm', L, s5, s6, hl, hL, eρ⟩ := hI
    subst eρ
    obtain ⟨hj, ed⟩ := ran_at hd
    refine ⟨_, rfl, ?_⟩
    have last : ∀ (ds : List D) (m : SM), SI m → IsLot w (.tup ds) → L.length ≤ 16777215 ∧ SI m ∧ L.length = j ∧ ∀ (d : D), d ∈ L ∨ d = .tup ds → IsLot w d := fun ds m q1 q2 => ⟨by omega, q1, by omega, fun x hx => hx.elim (hL x) fun e => by rw [e]; exact q2⟩
    simp only [triF_if, triF_app]
    simp [tri_runF, triF_seq, triF_nx, triF_rt, triF_bk, triF_ct, triF_ret, triF_if, triF_asg, triF_new, triF_setS, triF_setSt, triF_for, aft_nx, aft_rt, aft_rf, fin_rt, fin_rf, triF_retO, fin_nx, tri_fC, tri_gVar, tri_f2, tri_f1, tri_fL, tri_aN, tri_aC, tri_fTup, tri_lDis, tri_fNew, tri_fNot, tri_fAnd, tri_fOr, tri_fIf, tri_fCh, tri_tT, tri_t2, tri_tYes, tri_tNo, tri_tAnd, tri_tOr, tri_asB, tri_truB, tri_truI, tri_truL, tri_truT, tri_truN, tri_add, tri_sub, tri_lt, tri_le, tri_gt, tri_ge, tri_mod, tri_div, tri_pow, tri_mul, tri_int, tri_len, tri_min, tri_max, tri_eqI, tri_ixL, tri_ixT, tri_ixC, tri_ixS, tri_iSeq, tri_itsL, tri_itsT, tri_itsC, tri_iRan, tri_range, tri_iG, tri_enum, tri_comp, tri_tupL, tri_tupT, tri_pure, tri_bind, tri_need, tri_lim, vw, allM, Sl.see, isSto, ixN, atI, SM.all, dLen1]
    split
    · refine ⟨by omega, by omega, lot_comp (n := (w : Int)) hm' (by simp) (by omega) (fun i m hm hi => ?_) last⟩
      simp [tri_runF, triF_seq, triF_nx, triF_rt, triF_bk, triF_ct, triF_ret, triF_if, triF_asg, triF_new, triF_setS, triF_setSt, triF_for, aft_nx, aft_rt, aft_rf, fin_rt, fin_rf, triF_retO, fin_nx, tri_fC, tri_gVar, tri_f2, tri_f1, tri_fL, tri_aN, tri_aC, tri_fTup, tri_lDis, tri_fNew, tri_fNot, tri_fAnd, tri_fOr, tri_fIf, tri_fCh, tri_tT, tri_t2, tri_tYes, tri_tNo, tri_tAnd, tri_tOr, tri_asB, tri_truB, tri_truI, tri_truL, tri_truT, tri_truN, tri_add, tri_sub, tri_lt, tri_le, tri_gt, tri_ge, tri_mod, tri_div, tri_pow, tri_mul, tri_int, tri_len, tri_min, tri_max, tri_eqI, tri_ixL, tri_ixT, tri_ixC, tri_ixS, tri_iSeq, tri_itsL, tri_itsT, tri_itsC, tri_iRan, tri_range, tri_iG, tri_enum, tri_comp, tri_tupL, tri_tupT, tri_pure, tri_bind, tri_need, tri_lim, vw, allM, Sl.see, isSto, ixN, atI, SM.all, dLen1]
      refine take_at hm (by decide) fun m2 y g1 g2 g3 => ?_
      simp [tri_runF, triF_seq, triF_nx, triF_rt, triF_bk, triF_ct, triF_ret, triF_if, triF_asg, triF_new, triF_setS, triF_setSt, triF_for, aft_nx, aft_rt, aft_rf, fin_rt, fin_rf, triF_retO, fin_nx, tri_fC, tri_gVar, tri_f2, tri_f1, tri_fL, tri_aN, tri_aC, tri_fTup, tri_lDis, tri_fNew, tri_fNot, tri_fAnd, tri_fOr, tri_fIf, tri_fCh, tri_tT, tri_t2, tri_tYes, tri_tNo, tri_tAnd, tri_tOr, tri_asB, tri_truB, tri_truI, tri_truL, tri_truT, tri_truN, tri_add, tri_sub, tri_lt, tri_le, tri_gt, tri_ge, tri_mod, tri_div, tri_pow, tri_mul, tri_int, tri_len, tri_min, tri_max, tri_eqI, tri_ixL, tri_ixT, tri_ixC, tri_ixS, tri_iSeq, tri_itsL, tri_itsT, tri_itsC, tri_iRan, tri_range, tri_iG, tri_enum, tri_comp, tri_tupL, tri_tupT, tri_pure, tri_bind, tri_need, tri_lim, vw, allM, Sl.see, isSto, ixN, atI, SM.all, dLen1]; exact g1
    split
    · refine ⟨by omega, by omega, lot_comp (n := (w : Int)) hm' (by simp) (by omega) (fun i m hm hi => ?_) last⟩
      simp [tri_runF, triF_seq, triF_nx, triF_rt, triF_bk, triF_ct, triF_ret, triF_if, triF_asg, triF_new, triF_setS, triF_setSt, triF_for, aft_nx, aft_rt, aft_rf, fin_rt, fin_rf, triF_retO, fin_nx, tri_fC, tri_gVar, tri_f2, tri_f1, tri_fL, tri_aN, tri_aC, tri_fTup, tri_lDis, tri_fNew, tri_fNot, tri_fAnd, tri_fOr, tri_fIf, tri_fCh, tri_tT, tri_t2, tri_tYes, tri_tNo, tri_tAnd, tri_tOr, tri_asB, tri_truB, tri_truI, tri_truL, tri_truT, tri_truN, tri_add, tri_sub, tri_lt, tri_le, tri_gt, tri_ge, tri_mod, tri_div, tri_pow, tri_mul, tri_int, tri_len, tri_min, tri_max, tri_eqI, tri_ixL, tri_ixT, tri_ixC, tri_ixS, tri_iSeq, tri_itsL, tri_itsT, tri_itsC, tri_iRan, tri_range, tri_iG, tri_enum, tri_comp, tri_tupL, tri_tupT, tri_pure, tri_bind, tri_need, tri_lim, vw, allM, Sl.see, isSto, ixN, atI, SM.all, dLen1]
      refine take_at hm (by decide) fun m2 y g1 g2 g3 => ?_
      simp only [tri_neI]; simp [tri_runF, triF_seq, triF_nx, triF_rt, triF_bk, triF_ct, triF_ret, triF_if, triF_asg, triF_new, triF_setS, triF_setSt, triF_for, aft_nx, aft_rt, aft_rf, fin_rt, fin_rf, triF_retO, fin_nx, tri_fC, tri_gVar, tri_f2, tri_f1, tri_fL, tri_aN, tri_aC, tri_fTup, tri_lDis, tri_fNew, tri_fNot, tri_fAnd, tri_fOr, tri_fIf, tri_fCh, tri_tT, tri_t2, tri_tYes, tri_tNo, tri_tAnd, tri_tOr, tri_asB, tri_truB, tri_truI, tri_truL, tri_truT, tri_truN, tri_add, tri_sub, tri_lt, tri_le, tri_gt, tri_ge, tri_mod, tri_div, tri_pow, tri_mul, tri_int, tri_len, tri_min, tri_max, tri_eqI, tri_ixL, tri_ixT, tri_ixC, tri_ixS, tri_iSeq, tri_itsL, tri_itsT, tri_itsC, tri_iRan, tri_range, tri_iG, tri_enum, tri_comp, tri_tupL, tri_tupT, tri_pure, tri_bind, tri_need, tri_lim, vw, allM, Sl.see, isSto, ixN, atI, SM.all, dLen1]; exact g1
    · refine ⟨by omega, by omega, lot_comp (n := (w : Int)) hm' (by simp) (by omega) (fun i m hm hi => ?_) last⟩
      simp [tri_runF, triF_seq, triF_nx, triF_rt, triF_bk, triF_ct, triF_ret, triF_if, triF_asg, triF_new, triF_setS, triF_setSt, triF_for, aft_nx, aft_rt, aft_rf, fin_rt, fin_rf, triF_retO, fin_nx, tri_fC, tri_gVar, tri_f2, tri_f1, tri_fL, tri_aN, tri_aC, tri_fTup, tri_lDis, tri_fNew, tri_fNot, tri_fAnd, tri_fOr, tri_fIf, tri_fCh, tri_tT, tri_t2, tri_tYes, tri_tNo, tri_tAnd, tri_tOr, tri_asB, tri_truB, tri_truI, tri_truL, tri_truT, tri_truN, tri_add, tri_sub, tri_lt, tri_le, tri_gt, tri_ge, tri_mod, tri_div, tri_pow, tri_mul, tri_int, tri_len, tri_min, tri_max, tri_eqI, tri_ixL, tri_ixT, tri_ixC, tri_ixS, tri_iSeq, tri_itsL, tri_itsT, tri_itsC, tri_iRan, tri_range, tri_iG, tri_enum, tri_comp, tri_tupL, tri_tupT, tri_pure, tri_bind, tri_need, tri_lim, vw, allM, Sl.see, isSto, ixN, atI, SM.all, dLen1]
      refine take_at hm (by decide) fun m2 y g1 g2 g3 => ?_
      simp [tri_runF, triF_seq, triF_nx, triF_rt, triF_bk, triF_ct, triF_ret, triF_if, triF_asg, triF_new, triF_setS, triF_setSt, triF_for, aft_nx, aft_rt, aft_rf, fin_rt, fin_rf, triF_retO, fin_nx, tri_fC, tri_gVar, tri_f2, tri_f1, tri_fL, tri_aN, tri_aC, tri_fTup, tri_lDis, tri_fNew, tri_fNot, tri_fAnd, tri_fOr, tri_fIf, tri_fCh, tri_tT, tri_t2, tri_tYes, tri_tNo, tri_tAnd, tri_tOr, tri_asB, tri_truB, tri_truI, tri_truL, tri_truT, tri_truN, tri_add, tri_sub, tri_lt, tri_le, tri_gt, tri_ge, tri_mod, tri_div, tri_pow, tri_mul, tri_int, tri_len, tri_min, tri_max, tri_eqI, tri_ixL, tri_ixT, tri_ixC, tri_ixS, tri_iSeq, tri_itsL, tri_itsT, tri_itsC, tri_iRan, tri_range, tri_iG, tri_enum, tri_comp, tri_tupL, tri_tupT, tri_pure, tri_bind, tri_need, tri_lim, vw, allM, Sl.see, isSto, ixN, atI, SM.all, dLen1]; exact g1
  · obtain ⟨hm', L, s5, s6, hl, hL, eρ⟩ := hI
    subst eρ
    have hl' : L.length = h := by simpa using hl
    simp [tri_runF, triF_seq, triF_nx, triF_rt, triF_bk, triF_ct, triF_ret, triF_if, triF_asg, triF_new, triF_setS, triF_setSt, triF_for, aft_nx, aft_rt, aft_rf, fin_rt, fin_rf, triF_retO, fin_nx, tri_fC, tri_gVar, tri_f2, tri_f1, tri_fL, tri_aN, tri_aC, tri_fTup, tri_lDis, tri_fNew, tri_fNot, tri_fAnd, tri_fOr, tri_fIf, tri_fCh, tri_tT, tri_t2, tri_tYes, tri_tNo, tri_tAnd, tri_tOr, tri_asB, tri_truB, tri_truI, tri_truL, tri_truT, tri_truN, tri_add, tri_sub, tri_lt, tri_le, tri_gt, tri_ge, tri_mod, tri_div, tri_pow, tri_mul, tri_int, tri_len, tri_min, tri_max, tri_eqI, tri_ixL, tri_ixT, tri_ixC, tri_ixS, tri_iSeq, tri_itsL, tri_itsT, tri_itsC, tri_iRan, tri_range, tri_iG, tri_enum, tri_comp, tri_tupL, tri_tupT, tri_pure, tri_bind, tri_need, tri_lim, vw, allM, Sl.see, isSto, ixN, atI, SM.all, dLen1]
    subst hl'
    exact of_at hL h1 h2 fun d hd => hP m' d hm' hd
end Hd
set_option Elab.async false
set_option linter.all false
set_option maxRecDepth 100000
set_option maxHeartbeats 4000000
namespace Hd
open PySem PySem.Spec PyProof.Rows L2 Den
theorem twin_at {m : SM} {h w : Nat} {P : D → SM → Prop} (hm : SI m) (h1 : h ≤ 1000) (h2 : w ≤ 1000) (hP : ∀ m' d, SI m' → IsGrid h w d → P d m') : Tri (den__law_twin [.sto, .int h, .int w]) m P := by
  unfold den__law_twin
  simp [tri_runF, triF_seq, triF_nx, triF_rt, triF_bk, triF_ct, triF_ret, triF_if, triF_asg, triF_new, triF_setS, triF_setSt, triF_for, aft_nx, aft_rt, aft_rf, fin_rt, fin_rf, triF_retO, fin_nx, tri_fC, tri_gVar, tri_f2, tri_f1, tri_fL, tri_aN, tri_aC, tri_fTup, tri_lDis, tri_fNew, tri_fNot, tri_fAnd, tri_fOr, tri_fIf, tri_fCh, tri_tT, tri_t2, tri_tYes, tri_tNo, tri_tAnd, tri_tOr, tri_asB, tri_truB, tri_truI, tri_truL, tri_truT, tri_truN, tri_add, tri_sub, tri_lt, tri_le, tri_gt, tri_ge, tri_mod, tri_div, tri_pow, tri_mul, tri_int, tri_len, tri_min, tri_max, tri_eqI, tri_ixL, tri_ixT, tri_ixC, tri_ixS, tri_iSeq, tri_itsL, tri_itsT, tri_itsC, tri_iRan, tri_range, tri_iG, tri_enum, tri_comp, tri_tupL, tri_tupT, tri_pure, tri_bind, tri_need, tri_lim, vw, allM, Sl.see, isSto, ixN, atI, SM.all, dLen1]
  refine take_at hm (by decide) fun m1 z k1 k2 k3 => ?_
  simp [tri_runF, triF_seq, triF_nx, triF_rt, triF_bk, triF_ct, triF_ret, triF_if, triF_asg, triF_new, triF_setS, triF_setSt, triF_for, aft_nx, aft_rt, aft_rf, fin_rt, fin_rf, triF_retO, fin_nx, tri_fC, tri_gVar, tri_f2, tri_f1, tri_fL, tri_aN, tri_aC, tri_fTup, tri_lDis, tri_fNew, tri_fNot, tri_fAnd, tri_fOr, tri_fIf, tri_fCh, tri_tT, tri_t2, tri_tYes, tri_tNo, tri_tAnd, tri_tOr, tri_asB, tri_truB, tri_truI, tri_truL, tri_truT, tri_truN, tri_add, tri_sub, tri_lt, tri_le, tri_gt, tri_ge, tri_mod, tri_div, tri_pow, tri_mul, tri_int, tri_len, tri_min, tri_max, tri_eqI, tri_ixL, tri_ixT, tri_ixC, tri_ixS, tri_iSeq, tri_itsL, tri_itsT, tri_itsC, tri_iRan, tri_range, tri_iG, tri_enum, tri_comp, tri_tupL, tri_tupT, tri_pure, tri_bind, tri_need, tri_lim, vw, allM, Sl.see, isSto, ixN, atI, SM.all, dLen1]
  refine ⟨by omega, by omega, ?_⟩
  refine tri_compE SI (fun d y => IsLot w y) true _ k1 (fun d hd m hm => ?_) fun ys m2 g1 g2 g3 g4 => ?_
  · refine ⟨_, rfl, ?_⟩
    simp [tri_runF, triF_seq, triF_nx, triF_rt, triF_bk, triF_ct, triF_ret, triF_if, triF_asg, triF_new, triF_setS, triF_setSt, triF_for, aft_nx, aft_rt, aft_rf, fin_rt, fin_rf, triF_retO, fin_nx, tri_fC, tri_gVar, tri_f2, tri_f1, tri_fL, tri_aN, tri_aC, tri_fTup, tri_lDis, tri_fNew, tri_fNot, tri_fAnd, tri_fOr, tri_fIf, tri_fCh, tri_tT, tri_t2, tri_tYes, tri_tNo, tri_tAnd, tri_tOr, tri_asB, tri_truB, tri_truI, tri_truL, tri_truT, tri_truN, tri_add, tri_sub, tri_lt, tri_le, tri_gt, tri_ge, tri_mod, tri_div, tri_pow, tri_mul, tri_int, tri_len, tri_min, tri_max, tri_eqI, tri_ixL, tri_ixT, tri_ixC, tri_ixS, tri_iSeq, tri_itsL, tri_itsT, tri_itsC, tri_iRan, tri_range, tri_iG, tri_enum, tri_comp, tri_tupL, tri_tupT, tri_pure, tri_bind, tri_need, tri_lim, vw, allM, Sl.see, isSto, ixN, atI, SM.all, dLen1]
    exact lot_run hm (by omega) (by omega) fun m2 y g1 g2 => ⟨g2, g1⟩
  · have ly : ys.length = (1 + z).toNat := by simpa using g3 rfl
    have hy : ∀ y ∈ ys, IsLot w y := fun y hy => by
      obtain ⟨_, _, q⟩ := g4 y hy
      exact q
    have h0 : ys ≠ [] := fun e => by rw [e] at ly; simp at ly; omega
    have l3 : ys.length ≤ 1000 := by omega
    refine ⟨rfl, by omega, ?_⟩
    refine triF_loop (fun j ρ m' => SI m' ∧ ∃ L s5 s6 s7 s8, L.length = j ∧ (∀ d ∈ L, IsLot w d) ∧ ρ = [.va .sto, .va (.int h), .va (.int w), .va (.lst ys), .ow L, s5, s6, s7, s8]) _ 0 _ m2 ⟨g1, [], _, _, _, _, rfl, by simp, rfl⟩ (fun j d ρ m' hd hI => ?_) (fun ρ m' hI => ?_)
    · obtain ⟨hm', L, s5, s6, s7, s8, hl, hL, eρ⟩ := hI
      subst eρ
      obtain ⟨hj, ed⟩ := ran_at hd
      refine ⟨_, rfl, ?_⟩
      simp only [triF_seq, triF_asg]
      simp [tri_runF, triF_seq, triF_nx, triF_rt, triF_bk, triF_ct, triF_ret, triF_if, triF_asg, triF_new, triF_setS, triF_setSt, triF_for, aft_nx, aft_rt, aft_rf, fin_rt, fin_rf, triF_retO, fin_nx, tri_fC, tri_gVar, tri_f2, tri_f1, tri_fL, tri_aN, tri_aC, tri_fTup, tri_lDis, tri_fNew, tri_fNot, tri_fAnd, tri_fOr, tri_fIf, tri_fCh, tri_tT, tri_t2, tri_tYes, tri_tNo, tri_tAnd, tri_tOr, tri_asB, tri_truB, tri_truI, tri_truL, tri_truT, tri_truN, tri_add, tri_sub, tri_lt, tri_le, tri_gt, tri_ge, tri_mod, tri_div, tri_pow, tri_mul, tri_int, tri_len, tri_min, tri_max, tri_eqI, tri_ixL, tri_ixT, tri_ixC, tri_ixS, tri_iSeq, tri_itsL, tri_itsT, tri_itsC, tri_iRan, tri_range, tri_iG, tri_enum, tri_comp, tri_tupL, tri_tupT, tri_pure, tri_bind, tri_need, tri_lim, vw, allM, Sl.see, isSto, ixN, atI, SM.all, dLen1]
      refine take_at hm' (by decide) fun m3 y q1 q2 q3 => ?_
      refine pick_at q1 h0 l3 fun m4 lot p1 p2 => ?_
      have lp := hy lot p2
      have last : ∀ (lot : D) (m : SM), SI m → IsLot w lot → L.length ≤ 16777215 ∧ SI m ∧ L.length = j ∧ ∀ (d : D), d ∈ L ∨ d = lot → IsLot w d := fun lot m hm hlot => ⟨by omega, hm, by omega, fun x hx => hx.elim (hL x) fun e => by rw [e]; exact hlot⟩
      simp only [triF_app]
      simp [tri_runF, triF_seq, triF_nx, triF_rt, triF_bk, triF_ct, triF_ret, triF_if, triF_asg, triF_new, triF_setS, triF_setSt, triF_for, aft_nx, aft_rt, aft_rf, fin_rt, fin_rf, triF_retO, fin_nx, tri_fC, tri_gVar, tri_f2, tri_f1, tri_fL, tri_aN, tri_aC, tri_fTup, tri_lDis, tri_fNew, tri_fNot, tri_fAnd, tri_fOr, tri_fIf, tri_fCh, tri_tT, tri_t2, tri_tYes, tri_tNo, tri_tAnd, tri_tOr, tri_asB, tri_truB, tri_truI, tri_truL, tri_truT, tri_truN, tri_add, tri_sub, tri_lt, tri_le, tri_gt, tri_ge, tri_mod, tri_div, tri_pow, tri_mul, tri_int, tri_len, tri_min, tri_max, tri_eqI, tri_ixL, tri_ixT, tri_ixC, tri_ixS, tri_iSeq, tri_itsL, tri_itsT, tri_itsC, tri_iRan, tri_range, tri_iG, tri_enum, tri_comp, tri_tupL, tri_tupT, tri_pure, tri_bind, tri_need, tri_lim, vw, allM, Sl.see, isSto, ixN, atI, SM.all, dLen1]
      have tail : ∀ (lot : D) (m : SM), SI m → IsLot w lot → (if y = 1 then Tri (den__law_take [D.sto, D.int 3]) m fun x m => Tri (dEq x (D.int 0)) m fun z m => Tri (asB z) m fun b m =>
            if b = true then L.length ≤ 16777215 ∧ SI m ∧ L.length = j ∧ ∀ (d : D), d ∈ L ∨ d = .tup [] → IsLot w d
            else L.length ≤ 16777215 ∧ SI m ∧ L.length = j ∧ ∀ (d : D), d ∈ L ∨ d = lot → IsLot w d
          else L.length ≤ 16777215 ∧ SI m ∧ L.length = j ∧ ∀ (d : D), d ∈ L ∨ d = lot → IsLot w d) := fun lot m hm hlot => by
        split
        · refine take_at hm (by decide) fun m5 x r1 r2 r3 => ?_
          simp [tri_runF, triF_seq, triF_nx, triF_rt, triF_bk, triF_ct, triF_ret, triF_if, triF_asg, triF_new, triF_setS, triF_setSt, triF_for, aft_nx, aft_rt, aft_rf, fin_rt, fin_rf, triF_retO, fin_nx, tri_fC, tri_gVar, tri_f2, tri_f1, tri_fL, tri_aN, tri_aC, tri_fTup, tri_lDis, tri_fNew, tri_fNot, tri_fAnd, tri_fOr, tri_fIf, tri_fCh, tri_tT, tri_t2, tri_tYes, tri_tNo, tri_tAnd, tri_tOr, tri_asB, tri_truB, tri_truI, tri_truL, tri_truT, tri_truN, tri_add, tri_sub, tri_lt, tri_le, tri_gt, tri_ge, tri_mod, tri_div, tri_pow, tri_mul, tri_int, tri_len, tri_min, tri_max, tri_eqI, tri_ixL, tri_ixT, tri_ixC, tri_ixS, tri_iSeq, tri_itsL, tri_itsT, tri_itsC, tri_iRan, tri_range, tri_iG, tri_enum, tri_comp, tri_tupL, tri_tupT, tri_pure, tri_bind, tri_need, tri_lim, vw, allM, Sl.see, isSto, ixN, atI, SM.all, dLen1]
          split
          · exact last _ m5 r1 nil_lot
          · exact last _ m5 r1 hlot
        · exact last _ m hm hlot
      split
      · refine pick_at p1 h0 l3 fun m5 lot2 r1 r2 => ?_
        have hj2 : ∀ d ∈ [lot, lot2], IsLot w d := fun d hd => by
          rcases List.mem_cons.mp hd with e | hd
          · rw [e]; exact lp
          · rw [List.mem_singleton.mp hd]; exact hy lot2 r2
        refine join_run (fun d hd => (hj2 d hd).its) (by simp) ?_
        have := tail _ m5 r1 (join_lot hj2)
        exact this
      · exact tail lot m4 p1 lp
    · obtain ⟨hm', L, s5, s6, s7, s8, hl, hL, eρ⟩ := hI
      subst eρ
      have hl' : L.length = h := by simpa using hl
      simp [tri_runF, triF_seq, triF_nx, triF_rt, triF_bk, triF_ct, triF_ret, triF_if, triF_asg, triF_new, triF_setS, triF_setSt, triF_for, aft_nx, aft_rt, aft_rf, fin_rt, fin_rf, triF_retO, fin_nx, tri_fC, tri_gVar, tri_f2, tri_f1, tri_fL, tri_aN, tri_aC, tri_fTup, tri_lDis, tri_fNew, tri_fNot, tri_fAnd, tri_fOr, tri_fIf, tri_fCh, tri_tT, tri_t2, tri_tYes, tri_tNo, tri_tAnd, tri_tOr, tri_asB, tri_truB, tri_truI, tri_truL, tri_truT, tri_truN, tri_add, tri_sub, tri_lt, tri_le, tri_gt, tri_ge, tri_mod, tri_div, tri_pow, tri_mul, tri_int, tri_len, tri_min, tri_max, tri_eqI, tri_ixL, tri_ixT, tri_ixC, tri_ixS, tri_iSeq, tri_itsL, tri_itsT, tri_itsC, tri_iRan, tri_range, tri_iG, tri_enum, tri_comp, tri_tupL, tri_tupT, tri_pure, tri_bind, tri_need, tri_lim, vw, allM, Sl.see, isSto, ixN, atI, SM.all, dLen1]
      subst hl'
      exact of_at hL h1 h2 fun d hd => hP m' d hm' hd
theorem every_lot (w : Nat) (hw : w ≤ 1000) : IsLot w (.tup ((List.range w).map fun i : Nat => D.int (i : Int))) :=
  ⟨(List.range w).map fun i : Nat => (i : Int), by simp, fun k hk => by
    obtain ⟨i, hi, e⟩ := List.mem_map.mp hk
    have := List.mem_range.mp hi
    omega, by simpa using hw⟩
end Hd
set_option Elab.async false
set_option linter.all false
set_option maxRecDepth 100000
set_option maxHeartbeats 4000000
namespace Den
open PySem PySem.Spec PyProof.Rows L2
theorem triF_mov {m : SM} {P : Fl → SM → Prop} {ρ : SV} {io il : Nat} {F : EV → M D} {xs ys : List D} (h1 : ρ[io]? = some (.ow xs)) (h2 : ρ[il]? = some (.ow ys)) (hne : io ≠ il)
    (h : Tri (F (vw (allM ρ) ρ)) m fun d m => ∃ (j : Int) (k : Nat) (y : D), d = .int j ∧ seqIndex? j ys.length = some k ∧ ys[k]? = some y ∧ -(2 ^ 63) ≤ j ∧ j < 2 ^ 63 ∧ xs.length + 1 ≤ 16777216 ∧ P (.nx ((ρ.set il (.ow (ys.eraseIdx k))).set io (.ow (xs ++ [y])))) m) : TriF (gMov io il F ρ) m P := by
  unfold gMov
  have c : (isOw io ρ && isOw il ρ) = true := by simp [isOw, h1, h2]
  rw [if_pos c, triF_exB]
  refine h.mono fun d m ⟨j, k, y, e, e1, e2, b1, b2, b3, p⟩ => ?_
  subst e
  unfold movD
  rw [h1, h2]
  simp only [e1, e2]
  rw [if_pos ⟨b1, b2, hne⟩, triF_lim, triF_nx]
  exact ⟨b3, p⟩
end Den
namespace Hd
open PySem PySem.Spec PyProof.Rows L2 Den
theorem perm_erase {α : Type} : ∀ {xs : List α} {k : Nat} {y : α}, xs[k]? = some y → (y :: xs.eraseIdx k).Perm xs
  | [], _, _, h => by simp at h
  | x :: xs, 0, y, h => by
    simp at h
    subst h
    exact List.Perm.refl _
  | x :: xs, k + 1, y, h => by
    have h' : xs[k]? = some y := by simpa using h
    exact (List.Perm.swap _ _ _).trans ((perm_erase h').cons x)
theorem shuffle_at {m : SM} {xs : List D} {P : D → SM → Prop} (hm : SI m) (hl : xs.length ≤ 1000) (h : ∀ m' ys, SI m' → ys.Perm xs → P (.lst ys) m') : Tri (den__law_shuffle [.sto, .lst xs]) m P := by
  unfold den__law_shuffle
  simp [tri_runF, triF_seq, triF_nx, triF_rt, triF_bk, triF_ct, triF_ret, triF_if, triF_asg, triF_new, triF_setS, triF_setSt, triF_for, aft_nx, aft_rt, aft_rf, fin_rt, fin_rf, triF_retO, fin_nx, tri_fC, tri_gVar, tri_f2, tri_f1, tri_fL, tri_aN, tri_aC, tri_fTup, tri_lDis, tri_fNew, tri_fNot, tri_fAnd, tri_fOr, tri_fIf, tri_fCh, tri_tT, tri_t2, tri_tYes, tri_tNo, tri_tAnd, tri_tOr, tri_asB, tri_truB, tri_truI, tri_truL, tri_truT, tri_truN, tri_add, tri_sub, tri_lt, tri_le, tri_gt, tri_ge, tri_mod, tri_div, tri_pow, tri_mul, tri_int, tri_len, tri_min, tri_max, tri_eqI, tri_ixL, tri_ixT, tri_ixC, tri_ixS, tri_iSeq, tri_itsL, tri_itsT, tri_itsC, tri_iRan, tri_range, tri_iG, tri_enum, tri_comp, tri_tupL, tri_tupT, tri_pure, tri_bind, tri_need, tri_lim, vw, allM, Sl.see, isSto, ixN, atI, SM.all, dLen1]
  refine ⟨by omega, tri_compM (fun d => d) _ (fun d hd => ⟨_, rfl, ?_⟩) ?_⟩
  · rw [tri_gVar]; exact ⟨_, rfl, rfl, rfl⟩
  rw [List.map_id']
  refine ⟨rfl, rfl, by omega, ?_⟩
  refine triF_loop (fun j ρ m' => SI m' ∧ ∃ L O s4 s5, L.length + j = xs.length ∧ O.length = j ∧ (O ++ L).Perm xs ∧ ρ = [.va .sto, .va (.lst xs), .ow L, .ow O, s4, s5]) _ 0 _ m ⟨hm, xs, [], _, _, rfl, rfl, List.Perm.refl _, rfl⟩ (fun j d ρ m' hd hI => ?_) (fun ρ m' hI => ?_)
  · obtain ⟨hm', L, O, s4, s5, l1, l2, hp, eρ⟩ := hI
    subst eρ
    obtain ⟨hj, ed⟩ := ran_at hd
    refine ⟨_, rfl, ?_⟩
    refine triF_mov (xs := O) (ys := L) rfl rfl (by decide) ?_
    simp [tri_runF, triF_seq, triF_nx, triF_rt, triF_bk, triF_ct, triF_ret, triF_if, triF_asg, triF_new, triF_setS, triF_setSt, triF_for, aft_nx, aft_rt, aft_rf, fin_rt, fin_rf, triF_retO, fin_nx, tri_fC, tri_gVar, tri_f2, tri_f1, tri_fL, tri_aN, tri_aC, tri_fTup, tri_lDis, tri_fNew, tri_fNot, tri_fAnd, tri_fOr, tri_fIf, tri_fCh, tri_tT, tri_t2, tri_tYes, tri_tNo, tri_tAnd, tri_tOr, tri_asB, tri_truB, tri_truI, tri_truL, tri_truT, tri_truN, tri_add, tri_sub, tri_lt, tri_le, tri_gt, tri_ge, tri_mod, tri_div, tri_pow, tri_mul, tri_int, tri_len, tri_min, tri_max, tri_eqI, tri_ixL, tri_ixT, tri_ixC, tri_ixS, tri_iSeq, tri_itsL, tri_itsT, tri_itsC, tri_iRan, tri_range, tri_iG, tri_enum, tri_comp, tri_tupL, tri_tupT, tri_pure, tri_bind, tri_need, tri_lim, vw, allM, Sl.see, isSto, ixN, atI, SM.all, dLen1]
    refine take_at hm' (by omega) fun m2 z q1 q2 q3 => ?_
    have hz : z.toNat < L.length := by omega
    have ix : seqIndex? z L.length = some z.toNat := by
      unfold seqIndex?
      rw [if_neg (show ¬ z < 0 by omega)]
      simp; omega
    refine ⟨z, rfl, z.toNat, ix, L[z.toNat], List.getElem?_eq_getElem hz, by omega, by omega, by omega, q1, L.eraseIdx z.toNat, ?_, ?_⟩
    · rw [List.length_eraseIdx_of_lt hz]; omega
    · refine ⟨O ++ [L[z.toNat]], by simp; omega, ?_, rfl, rfl⟩
      rw [List.append_assoc]
      exact ((perm_erase (List.getElem?_eq_getElem hz)).append_left O).trans hp
  · obtain ⟨hm', L, O, s4, s5, l1, l2, hp, eρ⟩ := hI
    subst eρ
    have l0 : L = [] := by simpa using l1
    subst l0
    simp [tri_runF, triF_seq, triF_nx, triF_rt, triF_bk, triF_ct, triF_ret, triF_if, triF_asg, triF_new, triF_setS, triF_setSt, triF_for, aft_nx, aft_rt, aft_rf, fin_rt, fin_rf, triF_retO, fin_nx, tri_fC, tri_gVar, tri_f2, tri_f1, tri_fL, tri_aN, tri_aC, tri_fTup, tri_lDis, tri_fNew, tri_fNot, tri_fAnd, tri_fOr, tri_fIf, tri_fCh, tri_tT, tri_t2, tri_tYes, tri_tNo, tri_tAnd, tri_tOr, tri_asB, tri_truB, tri_truI, tri_truL, tri_truT, tri_truN, tri_add, tri_sub, tri_lt, tri_le, tri_gt, tri_ge, tri_mod, tri_div, tri_pow, tri_mul, tri_int, tri_len, tri_min, tri_max, tri_eqI, tri_ixL, tri_ixT, tri_ixC, tri_ixS, tri_iSeq, tri_itsL, tri_itsT, tri_itsC, tri_iRan, tri_range, tri_iG, tri_enum, tri_comp, tri_tupL, tri_tupT, tri_pure, tri_bind, tri_need, tri_lim, vw, allM, Sl.see, isSto, ixN, atI, SM.all, dLen1]
    exact h m' O hm' (by simpa using hp)
end Hd
set_option Elab.async false
set_option linter.all false
set_option maxRecDepth 100000
set_option maxHeartbeats 4000000
namespace Hd
open PySem PySem.Spec PyProof.Rows L2 Den
/-- a tuple of n ints in which each number below n lies -/
structure IsPlc (n : Nat) (d : D) : Prop where
  ex : ∃ ks : List Int, d = .tup (ks.map .int) ∧ ks.length = n ∧ ∀ i : Nat, i < n → (i : Int) ∈ ks
theorem plc_map {n : Nat} (f : Nat → Int) (h : ∀ i : Nat, i < n → ∃ k : Nat, k < n ∧ f k = i) : IsPlc n (.tup ((List.range n).map fun k : Nat => D.int (f k))) :=
  ⟨(List.range n).map f, by simp, by simp, fun i hi => by
    obtain ⟨k, hk, e⟩ := h i hi
    exact List.mem_map.mpr ⟨k, List.mem_range.mpr hk, e⟩⟩
theorem placing_at {m : SM} {n : Nat} {P : D → SM → Prop} (hm : SI m) (hn : n ≤ 1000) (h : ∀ m' d, SI m' → IsPlc n d → P d m') : Tri (den__law_placing [.sto, .int n]) m P := by
  unfold den__law_placing
  simp [tri_runF, triF_seq, triF_nx, triF_rt, triF_bk, triF_ct, triF_ret, triF_if, triF_asg, triF_new, triF_setS, triF_setSt, triF_for, aft_nx, aft_rt, aft_rf, fin_rt, fin_rf, triF_retO, fin_nx, tri_fC, tri_gVar, tri_f2, tri_f1, tri_fL, tri_aN, tri_aC, tri_fTup, tri_lDis, tri_fNew, tri_fNot, tri_fAnd, tri_fOr, tri_fIf, tri_fCh, tri_tT, tri_t2, tri_tYes, tri_tNo, tri_tAnd, tri_tOr, tri_asB, tri_truB, tri_truI, tri_truL, tri_truT, tri_truN, tri_add, tri_sub, tri_lt, tri_le, tri_gt, tri_ge, tri_mod, tri_div, tri_pow, tri_mul, tri_int, tri_len, tri_min, tri_max, tri_eqI, tri_ixL, tri_ixT, tri_ixC, tri_ixS, tri_iSeq, tri_itsL, tri_itsT, tri_itsC, tri_iRan, tri_range, tri_iG, tri_enum, tri_comp, tri_tupL, tri_tupT, tri_pure, tri_bind, tri_need, tri_lim, vw, allM, Sl.see, isSto, ixN, atI, SM.all, dLen1]
  refine take_at hm (by decide) fun m1 z k1 k2 k3 => ?_
  simp [tri_runF, triF_seq, triF_nx, triF_rt, triF_bk, triF_ct, triF_ret, triF_if, triF_asg, triF_new, triF_setS, triF_setSt, triF_for, aft_nx, aft_rt, aft_rf, fin_rt, fin_rf, triF_retO, fin_nx, tri_fC, tri_gVar, tri_f2, tri_f1, tri_fL, tri_aN, tri_aC, tri_fTup, tri_lDis, tri_fNew, tri_fNot, tri_fAnd, tri_fOr, tri_fIf, tri_fCh, tri_tT, tri_t2, tri_tYes, tri_tNo, tri_tAnd, tri_tOr, tri_asB, tri_truB, tri_truI, tri_truL, tri_truT, tri_truN, tri_add, tri_sub, tri_lt, tri_le, tri_gt, tri_ge, tri_mod, tri_div, tri_pow, tri_mul, tri_int, tri_len, tri_min, tri_max, tri_eqI, tri_ixL, tri_ixT, tri_ixC, tri_ixS, tri_iSeq, tri_itsL, tri_itsT, tri_itsC, tri_iRan, tri_range, tri_iG, tri_enum, tri_comp, tri_tupL, tri_tupT, tri_pure, tri_bind, tri_need, tri_lim, vw, allM, Sl.see, isSto, ixN, atI, SM.all, dLen1]
  split
  · refine ⟨by omega, by omega, tri_compM (fun d => d) _ (fun d hd => ⟨_, rfl, ?_⟩) ?_⟩
    · rw [tri_gVar]; exact ⟨_, rfl, rfl, rfl⟩
    · rw [List.map_id']
      exact h m1 _ k1 (plc_map (fun k => (k : Int)) fun i hi => ⟨i, hi, rfl⟩)
  split
  · refine ⟨by omega, by omega, tri_compM (fun d => match d with | .int k => .int ((k + 1) % n) | _ => .non) _ (fun d hd => ?_) ?_⟩
    · obtain ⟨i, hi, e⟩ := List.mem_map.mp hd
      subst e
      have := List.mem_range.mp hi
      refine ⟨_, rfl, ?_⟩
      simp [tri_runF, triF_seq, triF_nx, triF_rt, triF_bk, triF_ct, triF_ret, triF_if, triF_asg, triF_new, triF_setS, triF_setSt, triF_for, aft_nx, aft_rt, aft_rf, fin_rt, fin_rf, triF_retO, fin_nx, tri_fC, tri_gVar, tri_f2, tri_f1, tri_fL, tri_aN, tri_aC, tri_fTup, tri_lDis, tri_fNew, tri_fNot, tri_fAnd, tri_fOr, tri_fIf, tri_fCh, tri_tT, tri_t2, tri_tYes, tri_tNo, tri_tAnd, tri_tOr, tri_asB, tri_truB, tri_truI, tri_truL, tri_truT, tri_truN, tri_add, tri_sub, tri_lt, tri_le, tri_gt, tri_ge, tri_mod, tri_div, tri_pow, tri_mul, tri_int, tri_len, tri_min, tri_max, tri_eqI, tri_ixL, tri_ixT, tri_ixC, tri_ixS, tri_iSeq, tri_itsL, tri_itsT, tri_itsC, tri_iRan, tri_range, tri_iG, tri_enum, tri_comp, tri_tupL, tri_tupT, tri_pure, tri_bind, tri_need, tri_lim, vw, allM, Sl.see, isSto, ixN, atI, SM.all, dLen1]
      omega
    · rw [List.map_map]
      exact h m1 _ k1 (plc_map (fun k => ((k : Int) + 1) % n) fun i hi => by
        by_cases h0 : i = 0
        · refine ⟨n - 1, by omega, ?_⟩
          rw [h0, show (((n - 1 : Nat) : Int) + 1) = n by omega]
          simp
        · refine ⟨i - 1, by omega, ?_⟩
          rw [show (((i - 1 : Nat) : Int) + 1) = i by omega]
          exact Int.emod_eq_of_lt (by omega) (by omega))
  split
  · refine ⟨by omega, by omega, tri_compM (fun d => match d with | .int k => .int (n - 1 - k) | _ => .non) _ (fun d hd => ?_) ?_⟩
    · obtain ⟨i, hi, e⟩ := List.mem_map.mp hd
      subst e
      refine ⟨_, rfl, ?_⟩
      simp [tri_runF, triF_seq, triF_nx, triF_rt, triF_bk, triF_ct, triF_ret, triF_if, triF_asg, triF_new, triF_setS, triF_setSt, triF_for, aft_nx, aft_rt, aft_rf, fin_rt, fin_rf, triF_retO, fin_nx, tri_fC, tri_gVar, tri_f2, tri_f1, tri_fL, tri_aN, tri_aC, tri_fTup, tri_lDis, tri_fNew, tri_fNot, tri_fAnd, tri_fOr, tri_fIf, tri_fCh, tri_tT, tri_t2, tri_tYes, tri_tNo, tri_tAnd, tri_tOr, tri_asB, tri_truB, tri_truI, tri_truL, tri_truT, tri_truN, tri_add, tri_sub, tri_lt, tri_le, tri_gt, tri_ge, tri_mod, tri_div, tri_pow, tri_mul, tri_int, tri_len, tri_min, tri_max, tri_eqI, tri_ixL, tri_ixT, tri_ixC, tri_ixS, tri_iSeq, tri_itsL, tri_itsT, tri_itsC, tri_iRan, tri_range, tri_iG, tri_enum, tri_comp, tri_tupL, tri_tupT, tri_pure, tri_bind, tri_need, tri_lim, vw, allM, Sl.see, isSto, ixN, atI, SM.all, dLen1]
    · rw [List.map_map]
      exact h m1 _ k1 (plc_map (fun k => (n : Int) - 1 - k) fun i hi => ⟨n - 1 - i, by omega, by omega⟩)
  · refine ⟨by omega, by omega, tri_compM (fun d => d) _ (fun d hd => ⟨_, rfl, ?_⟩) ?_⟩
    · rw [tri_gVar]; exact ⟨_, rfl, rfl, rfl⟩
    · rw [List.map_id']
      refine shuffle_at k1 (by simpa using hn) fun m2 ys q1 q2 => ?_
      simp [tri_runF, triF_seq, triF_nx, triF_rt, triF_bk, triF_ct, triF_ret, triF_if, triF_asg, triF_new, triF_setS, triF_setSt, triF_for, aft_nx, aft_rt, aft_rf, fin_rt, fin_rf, triF_retO, fin_nx, tri_fC, tri_gVar, tri_f2, tri_f1, tri_fL, tri_aN, tri_aC, tri_fTup, tri_lDis, tri_fNew, tri_fNot, tri_fAnd, tri_fOr, tri_fIf, tri_fCh, tri_tT, tri_t2, tri_tYes, tri_tNo, tri_tAnd, tri_tOr, tri_asB, tri_truB, tri_truI, tri_truL, tri_truT, tri_truN, tri_add, tri_sub, tri_lt, tri_le, tri_gt, tri_ge, tri_mod, tri_div, tri_pow, tri_mul, tri_int, tri_len, tri_min, tri_max, tri_eqI, tri_ixL, tri_ixT, tri_ixC, tri_ixS, tri_iSeq, tri_itsL, tri_itsT, tri_itsC, tri_iRan, tri_range, tri_iG, tri_enum, tri_comp, tri_tupL, tri_tupT, tri_pure, tri_bind, tri_need, tri_lim, vw, allM, Sl.see, isSto, ixN, atI, SM.all, dLen1]
      refine h m2 _ q1 ?_
      obtain ⟨ks, e, _⟩ := ints_of (p := fun _ => True) (ys := ys) fun y hy => by
        obtain ⟨i, _, e⟩ := List.mem_map.mp (q2.mem_iff.mp hy)
        exact ⟨i, e.symm, trivial⟩
      subst e
      refine ⟨ks, rfl, by simpa using q2.length_eq, fun i hi => ?_⟩
      have hmem : D.int (i : Int) ∈ ks.map D.int := q2.mem_iff.mpr (List.mem_map.mpr ⟨i, List.mem_range.mpr hi, rfl⟩)
      obtain ⟨k, hk, e⟩ := List.mem_map.mp hmem
      cases e
      exact hk
theorem D.ints_map : ∀ ks : List Int, D.ints (ks.map D.int) = some ks
  | [] => rfl
  | k :: ks => by rw [List.map_cons, D.ints, D.ints_map ks]; rfl
end Hd
set_option Elab.async false
set_option linter.all false
set_option maxRecDepth 100000
set_option maxHeartbeats 4000000
namespace Hd
open PySem PySem.Spec PyProof.Rows L2 Den
theorem IsLot.mono {v w : Int} {d : D} (h : IsLot v d) (l : v ≤ w) : IsLot w d := by
  obtain ⟨ks, e, hk, hl⟩ := h
  exact ⟨ks, e, fun k q => ⟨(hk k q).1, by have := (hk k q).2; omega⟩, hl⟩
theorem tri_addL {xs ys : List D} {m : SM} {P : D → SM → Prop} : Tri (dAdd (.lst xs) (.lst ys)) m P ↔ xs.length + ys.length ≤ 16777216 ∧ P (.lst (xs ++ ys)) m := by
  unfold dAdd
  simp only [tri_bind, tri_lim, tri_pure]
end Hd
set_option Elab.async false
set_option linter.all false
set_option maxRecDepth 100000
set_option maxHeartbeats 4000000
namespace Den
open PySem PySem.Spec PyProof.Rows L2
theorem tri_slice {m : SM} {P : List D → SM → Prop} {ρ : EV} {F : EV → M D} {O O' : EV → M (Option Int)} : Tri (gSlice F O O' ρ) m P ↔ Tri (F ρ) m fun x m => Tri (O ρ) m fun lo m => Tri (O' ρ) m fun hi m => Tri (dCut x lo hi) m P := by
  unfold gSlice; simp only [tri_bind]
theorem tri_oNo {m : SM} {P : Option Int → SM → Prop} {ρ : EV} : Tri (oNo ρ) m P ↔ P none m := by unfold Tri; exact Iff.rfl
theorem tri_oYes {m : SM} {P : Option Int → SM → Prop} {ρ : EV} {F : EV → M D} : Tri (oYes F ρ) m P ↔ Tri (F ρ) m fun x m => Tri (asI x) m P := tri_bind
theorem tri_asI {m : SM} {P : Option Int → SM → Prop} {i : Int} : Tri (asI (.int i)) m P ↔ P (some i) m := by unfold Tri; exact Iff.rfl
theorem tri_cutC {m : SM} {P : List D → SM → Prop} {ns : List Int} {lo hi : Option Int} : Tri (dCut (.scr ns) lo hi) m P ↔ P ((cutD ns lo hi).map .int) m := by unfold Tri; exact Iff.rfl
theorem cut_take {α : Type} (xs : List α) (n : Nat) : cutD xs none (some (n : Int)) = xs.take n := by
  unfold cutD
  rw [HT.sIx_nat, HT.sIx_none, List.drop_zero, Nat.sub_zero, List.take_eq_take_iff]
  omega
end Den
namespace Hd
open PySem PySem.Spec PyProof.Rows L2 Den
theorem ran_comp {ρ : EV} {n j : Nat} {m : SM} {P : List D → SM → Prop} (hj : j < ρ.length) (hP : P ((List.range n).map fun i : Nat => D.int (i : Int)) m) : Tri (compL (eName j) Den.tYes (gVar j) ρ ((List.range n).map fun i : Nat => D.int (i : Int))) m P := by
  refine tri_compM (fun d => d) _ (fun d hd => ⟨_, rfl, ?_⟩) (by rw [List.map_id']; exact hP)
  rw [tri_gVar]; exact ⟨_, List.getElem?_set_self hj, rfl, rfl⟩
end Hd
set_option Elab.async false
set_option linter.all false
set_option maxRecDepth 100000
set_option maxHeartbeats 4000000
namespace Hd
open PySem PySem.Spec PyProof.Rows L2 Den
theorem gridD_w {h w : Nat} {g : D} (hg : IsGrid h w g) {m : SM} {P : D → SM → Prop} (hP : P (.int w) m) : Tri (dIx g (.int 2)) m P := by
  obtain ⟨rows, a, b, eg⟩ := hg.ex
  subst eg
  unfold gridD
  rw [tri_ixT]
  exact ⟨_, rfl, hP⟩
theorem gridD_h {h w : Nat} {g : D} (hg : IsGrid h w g) {m : SM} {P : D → SM → Prop} (hP : P (.int h) m) : Tri (dIx g (.int 1)) m P := by
  obtain ⟨rows, a, b, eg⟩ := hg.ex
  subst eg
  unfold gridD
  rw [tri_ixT]
  exact ⟨_, rfl, hP⟩
end Hd
set_option Elab.async false
set_option linter.all false
set_option maxRecDepth 100000
set_option maxHeartbeats 4000000
namespace Hd
open PySem PySem.Spec PyProof.Rows L2 Den
theorem lot2 {w a b : Int} (h1 : 0 ≤ a ∧ a < w) (h2 : 0 ≤ b ∧ b < w) : IsLot w (.tup [.int a, .int b]) := ⟨[a, b], rfl, by simpa using ⟨h1, h2⟩, by simp⟩
end Hd
set_option Elab.async false
set_option linter.all false
set_option maxRecDepth 100000
set_option maxHeartbeats 4000000
namespace Hd
open PySem PySem.Spec PyProof.Rows L2 Den
theorem pure_first (ns : List Int) (m : SM) (h : ns.length ≤ 63) : first_law (ev0 N_law.length ns) m = .ok (.lst (.lst (ns.map .int) :: [0, 0, 0, 0, 314159265358, 0].map .int)) m := by
  have key : Tri (first_law (ev0 N_law.length ns)) m fun d m' => d = .lst (.lst (ns.map .int) :: [0, 0, 0, 0, 314159265358, 0].map .int) ∧ m' = m := by
    unfold first_law ev0 N_law den__law_store
    simp [tri_runF, triF_seq, triF_nx, triF_rt, triF_bk, triF_ct, triF_ret, triF_if, triF_asg, triF_new, triF_setS, triF_setSt, triF_for, aft_nx, aft_rt, aft_rf, fin_rt, fin_rf, triF_retO, fin_nx, tri_fC, tri_gVar, tri_f2, tri_f1, tri_fL, tri_aN, tri_aC, tri_fTup, tri_lDis, tri_fNew, tri_fNot, tri_fAnd, tri_fOr, tri_fIf, tri_fCh, tri_tT, tri_t2, tri_tYes, tri_tNo, tri_tAnd, tri_tOr, tri_asB, tri_truB, tri_truI, tri_truL, tri_truT, tri_truN, tri_add, tri_sub, tri_lt, tri_le, tri_gt, tri_ge, tri_mod, tri_div, tri_pow, tri_mul, tri_int, tri_len, tri_min, tri_max, tri_eqI, tri_ixL, tri_ixT, tri_ixC, tri_ixS, tri_iSeq, tri_itsL, tri_itsT, tri_itsC, tri_iRan, tri_range, tri_iG, tri_enum, tri_comp, tri_tupL, tri_tupT, tri_pure, tri_bind, tri_need, tri_lim, vw, allM, Sl.see, isSto, ixN, atI, SM.all, dLen1]
    simp only [tri_slice]
    simp [tri_runF, triF_seq, triF_nx, triF_rt, triF_bk, triF_ct, triF_ret, triF_if, triF_asg, triF_new, triF_setS, triF_setSt, triF_for, aft_nx, aft_rt, aft_rf, fin_rt, fin_rf, triF_retO, fin_nx, tri_fC, tri_gVar, tri_f2, tri_f1, tri_fL, tri_aN, tri_aC, tri_fTup, tri_lDis, tri_fNew, tri_fNot, tri_fAnd, tri_fOr, tri_fIf, tri_fCh, tri_tT, tri_t2, tri_tYes, tri_tNo, tri_tAnd, tri_tOr, tri_asB, tri_truB, tri_truI, tri_truL, tri_truT, tri_truN, tri_add, tri_sub, tri_lt, tri_le, tri_gt, tri_ge, tri_mod, tri_div, tri_pow, tri_mul, tri_int, tri_len, tri_min, tri_max, tri_eqI, tri_ixL, tri_ixT, tri_ixC, tri_ixS, tri_iSeq, tri_itsL, tri_itsT, tri_itsC, tri_iRan, tri_range, tri_iG, tri_enum, tri_comp, tri_tupL, tri_tupT, tri_pure, tri_bind, tri_need, tri_lim, vw, allM, Sl.see, isSto, ixN, atI, SM.all, dLen1]
    simp only [tri_oNo, tri_oYes]
    simp [tri_runF, triF_seq, triF_nx, triF_rt, triF_bk, triF_ct, triF_ret, triF_if, triF_asg, triF_new, triF_setS, triF_setSt, triF_for, aft_nx, aft_rt, aft_rf, fin_rt, fin_rf, triF_retO, fin_nx, tri_fC, tri_gVar, tri_f2, tri_f1, tri_fL, tri_aN, tri_aC, tri_fTup, tri_lDis, tri_fNew, tri_fNot, tri_fAnd, tri_fOr, tri_fIf, tri_fCh, tri_tT, tri_t2, tri_tYes, tri_tNo, tri_tAnd, tri_tOr, tri_asB, tri_truB, tri_truI, tri_truL, tri_truT, tri_truN, tri_add, tri_sub, tri_lt, tri_le, tri_gt, tri_ge, tri_mod, tri_div, tri_pow, tri_mul, tri_int, tri_len, tri_min, tri_max, tri_eqI, tri_ixL, tri_ixT, tri_ixC, tri_ixS, tri_iSeq, tri_itsL, tri_itsT, tri_itsC, tri_iRan, tri_range, tri_iG, tri_enum, tri_comp, tri_tupL, tri_tupT, tri_pure, tri_bind, tri_need, tri_lim, vw, allM, Sl.see, isSto, ixN, atI, SM.all, dLen1]
    simp only [tri_asI, tri_cutC]
    have hc : cutD ns none (some 63) = ns := by
      have := cut_take ns 63
      rw [show ((63 : Nat) : Int) = 63 from rfl] at this
      rw [this, List.take_of_length_le h]
    rw [hc]
    refine ⟨by simp; omega, ?_⟩
    refine tri_compM (fun d => d) _ (fun d hd => ⟨_, rfl, ?_⟩) (by rw [List.map_id']; exact ⟨rfl, rfl⟩)
    obtain ⟨k, _, e⟩ := List.mem_map.mp hd
    subst e
    simp [tri_runF, triF_seq, triF_nx, triF_rt, triF_bk, triF_ct, triF_ret, triF_if, triF_asg, triF_new, triF_setS, triF_setSt, triF_for, aft_nx, aft_rt, aft_rf, fin_rt, fin_rf, triF_retO, fin_nx, tri_fC, tri_gVar, tri_f2, tri_f1, tri_fL, tri_aN, tri_aC, tri_fTup, tri_lDis, tri_fNew, tri_fNot, tri_fAnd, tri_fOr, tri_fIf, tri_fCh, tri_tT, tri_t2, tri_tYes, tri_tNo, tri_tAnd, tri_tOr, tri_asB, tri_truB, tri_truI, tri_truL, tri_truT, tri_truN, tri_add, tri_sub, tri_lt, tri_le, tri_gt, tri_ge, tri_mod, tri_div, tri_pow, tri_mul, tri_int, tri_len, tri_min, tri_max, tri_eqI, tri_ixL, tri_ixT, tri_ixC, tri_ixS, tri_iSeq, tri_itsL, tri_itsT, tri_itsC, tri_iRan, tri_range, tri_iG, tri_enum, tri_comp, tri_tupL, tri_tupT, tri_pure, tri_bind, tri_need, tri_lim, vw, allM, Sl.see, isSto, ixN, atI, SM.all, dLen1]
  obtain ⟨d, m', e, q1, q2⟩ := key.run
  rw [e, q1, q2]
end Hd
set_option Elab.async false
set_option linter.all false
set_option maxRecDepth 100000
set_option maxHeartbeats 4000000
namespace Den
open PySem PySem.Spec PyProof.Rows L2
section
variable {m : SM} {P : D → SM → Prop} {ρ : EV} {F : EV → M D} {A Ak : EV → M (List D)}
theorem tri_gIsi {oc : Option Str} {cls : List Cl} : Tri (gIsi oc cls F ρ) m P ↔ Tri (F ρ) m fun x m => x.plainOr oc = true ∧ P (.bl (cls.any (isCl x))) m := by
  unfold gIsi; simp only [tri_bind, tri_need, tri_pure]
theorem tri_gProp {c : Str} {g : List D → M D} : Tri (gProp c g F ρ) m P ↔ Tri (F ρ) m fun x m => isObj c x = true ∧ Tri (g [x]) m P := by
  unfold gProp; simp only [tri_bind, tri_need, tri_noErr]
theorem tri_gInv {c : Str} {g : List D → M D} : Tri (gInv c g F ρ) m P ↔ Tri (F ρ) m fun x m => isObj c x = true ∧ Tri (g [x]) m P := by
  unfold gInv; simp only [tri_bind, tri_need]
theorem tri_gFld {c f : Str} : Tri (gFld c f F ρ) m P ↔ Tri (F ρ) m fun x m => Tri (dFld c f x) m P := by
  unfold gFld; simp only [tri_bind]
theorem tri_callK {g : List D → M D} {n k : Nat} {pl : List Nat} {cd : List D} : Tri (gCallK g A Ak n k pl cd ρ) m P ↔ Tri (A ρ) m fun ds m => Tri (Ak ρ) m fun es m => (ds.length = n ∧ es.length = k) ∧ Tri (g (pick pl (ds ++ (es ++ cd)))) m P := by
  unfold gCallK gArgs
  simp only [tri_bind, tri_need, tri_pure, Bool.and_eq_true, decide_eq_true_eq]
theorem tri_lG {g : List D → M (List D)} {P : List D → SM → Prop} : Tri (lG g A ρ) m P ↔ Tri (A ρ) m fun ds m => Tri (g ds) m P := tri_bind
theorem tri_list_tup {xs : List D} {P : List D → SM → Prop} : Tri (dList [.tup xs]) m P ↔ P xs m := by unfold Tri; exact Iff.rfl
theorem tri_isBF {a : Bool} : Tri (dIsN (.bl a) (.bl false)) m P ↔ P (.bl (decide (a = false))) m := by unfold Tri; exact Iff.rfl
theorem tri_isIN {a : Int} : Tri (dIsN (.int a) .non) m P ↔ P (.bl false) m := by unfold Tri; exact Iff.rfl
theorem tri_isBN {a : Bool} : Tri (dIsN (.bl a) .non) m P ↔ P (.bl false) m := by unfold Tri; exact Iff.rfl
end
section
variable {m : SM} {P : Fl → SM → Prop} {ρ : SV} {G : SV → M Fl}
theorem triF_fldS {i : Nat} {c f : Str} {F : EV → M D} {fs : List (Str × D)} (h1 : ρ[i]? = some (.ob c fs)) (h2 : fs.length < 1000) (h : Tri (F (vw [] ρ)) m fun d m => P (.nx (ρ.set i (.ob c (putD f d fs)))) m) : TriF (gFldSet i c f F ρ) m P := by
  unfold gFldSet
  rw [triF_exB]
  refine h.mono fun d m h => ?_
  rw [h1]
  simp only
  rw [triF_need, triF_nx]
  exact ⟨by simp [h2], h⟩
theorem tri_runI {Q : List (Str × D) → SM → Prop} {c : Str} {p n : Nat} {ds : List D} (h1 : ds.length + 1 = p) (h : TriF (G (.ob c [] :: (ds.map .va ++ List.replicate (n - p) .no))) m fun f m' => ∃ c' fs r, f = .nx (.ob c' fs :: r) ∧ Q fs m') : Tri (runI c p n G ds) m Q := by
  unfold Tri runI
  rw [if_pos h1]
  unfold TriF at h
  cases e : G (.ob c [] :: (ds.map .va ++ List.replicate (n - p) .no)) m with
  | ok f m' =>
    rw [e] at h
    cases f with
    | nx ρ' =>
      obtain ⟨c', fs, r, e2, q⟩ := h
      cases e2
      exact q
    | rt d => obtain ⟨_, _, _, e2, _⟩ := h; cases e2
    | rf d => obtain ⟨_, _, _, e2, _⟩ := h; cases e2
    | bk d => obtain ⟨_, _, _, e2, _⟩ := h; cases e2
    | ct d => obtain ⟨_, _, _, e2, _⟩ := h; cases e2
    | ex _ _ _ => exact h.elim
  | err c fs m' => rw [e] at h; exact h
  | bad => rw [e] at h; exact h
end
end Den
namespace Hd
open PySem PySem.Spec PyProof.Rows L2 Den
theorem number_at {m : SM} {i n : Int} {P : D → SM → Prop} (h0 : 0 ≤ i) (h1 : i < n) (hP : P (.bl true) m) : Tri (den_is_number [.int i, .int n]) m P := by
  unfold den_is_number
  simp [tri_runF, triF_seq, triF_nx, triF_rt, triF_bk, triF_ct, triF_ret, triF_if, triF_asg, triF_for, aft_nx, aft_rt, aft_rf, fin_rt, fin_rf, triF_retO, fin_nx, tri_fC, tri_gVar, tri_f2, tri_f1, tri_fL, tri_aN, tri_aC, tri_fTup, tri_lDis, tri_fNew, tri_fNot, tri_fAnd, tri_fOr, tri_fIf, tri_fCh, tri_tT, tri_t2, tri_tYes, tri_tNo, tri_tAnd, tri_tOr, tri_asB, tri_truB, tri_truI, tri_truL, tri_truT, tri_truN, tri_add, tri_sub, tri_lt, tri_le, tri_gt, tri_ge, tri_int, tri_len, tri_eqI, tri_neI, tri_iSeq, tri_itsL, tri_itsT, tri_iRan, tri_range, tri_iG, tri_enum, tri_comp, tri_tupL, tri_tupT, tri_pure, tri_bind, tri_need, tri_lim, tri_noErr, tri_gIsi, tri_gProp, tri_gInv, tri_gFld, tri_callK, tri_lG, tri_list_tup, tri_isBF, tri_isIN, tri_isBN, vw, allM, Sl.see, dLen1, D.plainOr, isCl, D.tyn, Den.isObj, dFld, pick]
  rw [if_pos h0, decide_eq_true h1]
  exact hP
theorem short_at {m : SM} {xs : List D} {P : D → SM → Prop} (h : xs.length ≤ 6) (hP : P (.bl true) m) : Tri (den__is_short [.lst xs]) m P := by
  unfold den__is_short
  simp [tri_runF, triF_seq, triF_nx, triF_rt, triF_bk, triF_ct, triF_ret, triF_if, triF_asg, triF_for, aft_nx, aft_rt, aft_rf, fin_rt, fin_rf, triF_retO, fin_nx, tri_fC, tri_gVar, tri_f2, tri_f1, tri_fL, tri_aN, tri_aC, tri_fTup, tri_lDis, tri_fNew, tri_fNot, tri_fAnd, tri_fOr, tri_fIf, tri_fCh, tri_tT, tri_t2, tri_tYes, tri_tNo, tri_tAnd, tri_tOr, tri_asB, tri_truB, tri_truI, tri_truL, tri_truT, tri_truN, tri_add, tri_sub, tri_lt, tri_le, tri_gt, tri_ge, tri_int, tri_len, tri_eqI, tri_neI, tri_iSeq, tri_itsL, tri_itsT, tri_iRan, tri_range, tri_iG, tri_enum, tri_comp, tri_tupL, tri_tupT, tri_pure, tri_bind, tri_need, tri_lim, tri_noErr, tri_gIsi, tri_gProp, tri_gInv, tri_gFld, tri_callK, tri_lG, tri_list_tup, tri_isBF, tri_isIN, tri_isBN, vw, allM, Sl.see, dLen1, D.plainOr, isCl, D.tyn, Den.isObj, dFld, pick]
  rw [decide_eq_true (by omega)]
  exact hP
theorem isrow_at {m : SM} {r : List Bool} {w : Nat} {P : D → SM → Prop} (h : r.length = w) (hw : w ≤ 6) (hP : P (.bl true) m) : Tri (den__is_row [.lst (r.map .bl), .int w]) m P := by
  unfold den__is_row
  simp [tri_runF, triF_seq, triF_nx, triF_rt, triF_bk, triF_ct, triF_ret, triF_if, triF_asg, triF_for, aft_nx, aft_rt, aft_rf, fin_rt, fin_rf, triF_retO, fin_nx, tri_fC, tri_gVar, tri_f2, tri_f1, tri_fL, tri_aN, tri_aC, tri_fTup, tri_lDis, tri_fNew, tri_fNot, tri_fAnd, tri_fOr, tri_fIf, tri_fCh, tri_tT, tri_t2, tri_tYes, tri_tNo, tri_tAnd, tri_tOr, tri_asB, tri_truB, tri_truI, tri_truL, tri_truT, tri_truN, tri_add, tri_sub, tri_lt, tri_le, tri_gt, tri_ge, tri_int, tri_len, tri_eqI, tri_neI, tri_iSeq, tri_itsL, tri_itsT, tri_iRan, tri_range, tri_iG, tri_enum, tri_comp, tri_tupL, tri_tupT, tri_pure, tri_bind, tri_need, tri_lim, tri_noErr, tri_gIsi, tri_gProp, tri_gInv, tri_gFld, tri_callK, tri_lG, tri_list_tup, tri_isBF, tri_isIN, tri_isBN, vw, allM, Sl.see, dLen1, D.plainOr, isCl, D.tyn, Den.isObj, dFld, pick]
  refine short_at (by simpa using (by omega : r.length ≤ 6)) ?_
  simp [tri_runF, triF_seq, triF_nx, triF_rt, triF_bk, triF_ct, triF_ret, triF_if, triF_asg, triF_for, aft_nx, aft_rt, aft_rf, fin_rt, fin_rf, triF_retO, fin_nx, tri_fC, tri_gVar, tri_f2, tri_f1, tri_fL, tri_aN, tri_aC, tri_fTup, tri_lDis, tri_fNew, tri_fNot, tri_fAnd, tri_fOr, tri_fIf, tri_fCh, tri_tT, tri_t2, tri_tYes, tri_tNo, tri_tAnd, tri_tOr, tri_asB, tri_truB, tri_truI, tri_truL, tri_truT, tri_truN, tri_add, tri_sub, tri_lt, tri_le, tri_gt, tri_ge, tri_int, tri_len, tri_eqI, tri_neI, tri_iSeq, tri_itsL, tri_itsT, tri_iRan, tri_range, tri_iG, tri_enum, tri_comp, tri_tupL, tri_tupT, tri_pure, tri_bind, tri_need, tri_lim, tri_noErr, tri_gIsi, tri_gProp, tri_gInv, tri_gFld, tri_callK, tri_lG, tri_list_tup, tri_isBF, tri_isIN, tri_isBN, vw, allM, Sl.see, dLen1, D.plainOr, isCl, D.tyn, Den.isObj, dFld, pick]
  rw [if_pos (by omega)]
  refine ⟨by omega, tri_compM (fun _ => .bl true) _ (fun d hd => ⟨_, rfl, ?_⟩) ?_⟩
  · obtain ⟨c, hc, e⟩ := List.mem_map.mp hd
    subst e
    simp [tri_runF, triF_seq, triF_nx, triF_rt, triF_bk, triF_ct, triF_ret, triF_if, triF_asg, triF_for, aft_nx, aft_rt, aft_rf, fin_rt, fin_rf, triF_retO, fin_nx, tri_fC, tri_gVar, tri_f2, tri_f1, tri_fL, tri_aN, tri_aC, tri_fTup, tri_lDis, tri_fNew, tri_fNot, tri_fAnd, tri_fOr, tri_fIf, tri_fCh, tri_tT, tri_t2, tri_tYes, tri_tNo, tri_tAnd, tri_tOr, tri_asB, tri_truB, tri_truI, tri_truL, tri_truT, tri_truN, tri_add, tri_sub, tri_lt, tri_le, tri_gt, tri_ge, tri_int, tri_len, tri_eqI, tri_neI, tri_iSeq, tri_itsL, tri_itsT, tri_iRan, tri_range, tri_iG, tri_enum, tri_comp, tri_tupL, tri_tupT, tri_pure, tri_bind, tri_need, tri_lim, tri_noErr, tri_gIsi, tri_gProp, tri_gInv, tri_gFld, tri_callK, tri_lG, tri_list_tup, tri_isBF, tri_isIN, tri_isBN, vw, allM, Sl.see, dLen1, D.plainOr, isCl, D.tyn, Den.isObj, dFld, pick]
  · have e : (r.map D.bl).map (fun _ => D.bl true) = (r.map fun _ => true).map .bl := by simp
    rw [e, tri_all, show (r.map fun _ => true).all id = true from by rw [List.all_map]; exact List.all_eq_true.mpr fun _ _ => rfl]
    exact hP
theorem width_at {m : SM} {xs : List D} {w : Nat} {P : D → SM → Prop} (h : xs.length ≤ 6) (hw : w ≤ 6) (hP : P (.int w) m) : Tri (den__width_of [.lst xs, .int w]) m P := by
  unfold den__width_of
  simp [tri_runF, triF_seq, triF_nx, triF_rt, triF_bk, triF_ct, triF_ret, triF_if, triF_asg, triF_for, aft_nx, aft_rt, aft_rf, fin_rt, fin_rf, triF_retO, fin_nx, tri_fC, tri_gVar, tri_f2, tri_f1, tri_fL, tri_aN, tri_aC, tri_fTup, tri_lDis, tri_fNew, tri_fNot, tri_fAnd, tri_fOr, tri_fIf, tri_fCh, tri_tT, tri_t2, tri_tYes, tri_tNo, tri_tAnd, tri_tOr, tri_asB, tri_truB, tri_truI, tri_truL, tri_truT, tri_truN, tri_add, tri_sub, tri_lt, tri_le, tri_gt, tri_ge, tri_int, tri_len, tri_eqI, tri_neI, tri_iSeq, tri_itsL, tri_itsT, tri_iRan, tri_range, tri_iG, tri_enum, tri_comp, tri_tupL, tri_tupT, tri_pure, tri_bind, tri_need, tri_lim, tri_noErr, tri_gIsi, tri_gProp, tri_gInv, tri_gFld, tri_callK, tri_lG, tri_list_tup, tri_isBF, tri_isIN, tri_isBN, vw, allM, Sl.see, dLen1, D.plainOr, isCl, D.tyn, Den.isObj, dFld, pick]
  refine short_at h ?_
  simp [tri_runF, triF_seq, triF_nx, triF_rt, triF_bk, triF_ct, triF_ret, triF_if, triF_asg, triF_for, aft_nx, aft_rt, aft_rf, fin_rt, fin_rf, triF_retO, fin_nx, tri_fC, tri_gVar, tri_f2, tri_f1, tri_fL, tri_aN, tri_aC, tri_fTup, tri_lDis, tri_fNew, tri_fNot, tri_fAnd, tri_fOr, tri_fIf, tri_fCh, tri_tT, tri_t2, tri_tYes, tri_tNo, tri_tAnd, tri_tOr, tri_asB, tri_truB, tri_truI, tri_truL, tri_truT, tri_truN, tri_add, tri_sub, tri_lt, tri_le, tri_gt, tri_ge, tri_int, tri_len, tri_eqI, tri_neI, tri_iSeq, tri_itsL, tri_itsT, tri_iRan, tri_range, tri_iG, tri_enum, tri_comp, tri_tupL, tri_tupT, tri_pure, tri_bind, tri_need, tri_lim, tri_noErr, tri_gIsi, tri_gProp, tri_gInv, tri_gFld, tri_callK, tri_lG, tri_list_tup, tri_isBF, tri_isIN, tri_isBN, vw, allM, Sl.see, dLen1, D.plainOr, isCl, D.tyn, Den.isObj, dFld, pick]
  refine number_at (by omega) (by omega) ?_
  simp [tri_runF, triF_seq, triF_nx, triF_rt, triF_bk, triF_ct, triF_ret, triF_if, triF_asg, triF_for, aft_nx, aft_rt, aft_rf, fin_rt, fin_rf, triF_retO, fin_nx, tri_fC, tri_gVar, tri_f2, tri_f1, tri_fL, tri_aN, tri_aC, tri_fTup, tri_lDis, tri_fNew, tri_fNot, tri_fAnd, tri_fOr, tri_fIf, tri_fCh, tri_tT, tri_t2, tri_tYes, tri_tNo, tri_tAnd, tri_tOr, tri_asB, tri_truB, tri_truI, tri_truL, tri_truT, tri_truN, tri_add, tri_sub, tri_lt, tri_le, tri_gt, tri_ge, tri_int, tri_len, tri_eqI, tri_neI, tri_iSeq, tri_itsL, tri_itsT, tri_iRan, tri_range, tri_iG, tri_enum, tri_comp, tri_tupL, tri_tupT, tri_pure, tri_bind, tri_need, tri_lim, tri_noErr, tri_gIsi, tri_gProp, tri_gInv, tri_gFld, tri_callK, tri_lG, tri_list_tup, tri_isBF, tri_isIN, tri_isBN, vw, allM, Sl.see, dLen1, D.plainOr, isCl, D.tyn, Den.isObj, dFld, pick]
  exact hP
/-- rows of lists, of tuples -/
def rowL (r : List Bool) : D := .lst (r.map .bl)
def rowT (r : List Bool) : D := .tup (r.map .bl)
def cells (rows : List (List Bool)) : D := .tup (rows.map rowT)
def fieldsD (w : Nat) (rows : List (List Bool)) : List (Str × D) := [("_cells", cells rows), ("_width", .int w)]
/-- a table -/
def tabD (w : Nat) (rows : List (List Bool)) : D := .obj "Table" (fieldsD w rows)
/-- rows of one width, at most six, at most six wide -/
structure Rect (w : Nat) (rows : List (List Bool)) : Prop where
  high : rows.length ≤ 6
  wide : w ≤ 6
  row : ∀ r ∈ rows, r.length = w
theorem init_at {m : SM} {w : Nat} {rows : List (List Bool)} {P : List (Str × D) → SM → Prop} (hR : Rect w rows) (hP : P (fieldsD w rows) m) : Tri (deni_Table_init [.lst (rows.map rowL), .int w]) m P := by
  have a := hR.high
  have b := hR.wide
  unfold deni_Table_init
  refine tri_runI rfl ?_
  simp only [triF_seq]
  simp [tri_runF, triF_seq, triF_nx, triF_rt, triF_bk, triF_ct, triF_ret, triF_if, triF_asg, triF_for, aft_nx, aft_rt, aft_rf, fin_rt, fin_rf, triF_retO, fin_nx, tri_fC, tri_gVar, tri_f2, tri_f1, tri_fL, tri_aN, tri_aC, tri_fTup, tri_lDis, tri_fNew, tri_fNot, tri_fAnd, tri_fOr, tri_fIf, tri_fCh, tri_tT, tri_t2, tri_tYes, tri_tNo, tri_tAnd, tri_tOr, tri_asB, tri_truB, tri_truI, tri_truL, tri_truT, tri_truN, tri_add, tri_sub, tri_lt, tri_le, tri_gt, tri_ge, tri_int, tri_len, tri_eqI, tri_neI, tri_iSeq, tri_itsL, tri_itsT, tri_iRan, tri_range, tri_iG, tri_enum, tri_comp, tri_tupL, tri_tupT, tri_pure, tri_bind, tri_need, tri_lim, tri_noErr, tri_gIsi, tri_gProp, tri_gInv, tri_gFld, tri_callK, tri_lG, tri_list_tup, tri_isBF, tri_isIN, tri_isBN, vw, allM, Sl.see, dLen1, D.plainOr, isCl, D.tyn, Den.isObj, dFld, pick]
  refine width_at (by simpa using a) b ?_
  refine triF_loop (fun j ρ m' => m' = m ∧ ∃ s4 s5, ρ = [.ob "Table" [], .va (.lst (rows.map rowL)), .va (.int w), .va (.int w), s4, s5]) _ 0 _ m ⟨rfl, _, _, rfl⟩ (fun j d ρ m' hd hI => ?_) (fun ρ m' hI => ?_)
  · obtain ⟨em, s4, s5, eρ⟩ := hI
    subst eρ em
    have hjr : j < rows.length := by
      by_cases hh : j < rows.length
      · exact hh
      · rw [List.getElem?_eq_none (by rw [enumD_length]; simpa using hh)] at hd; cases hd
    have ed : d = .tup [.int (j : Nat), rowL rows[j]] := by
      rw [enumD_get (d := rowL rows[j]) (by simp [hjr])] at hd
      exact (Option.some.inj hd).symm
    subst ed
    refine ⟨_, rfl, ?_⟩
    rw [triF_if]
    simp [tri_runF, triF_seq, triF_nx, triF_rt, triF_bk, triF_ct, triF_ret, triF_if, triF_asg, triF_for, aft_nx, aft_rt, aft_rf, fin_rt, fin_rf, triF_retO, fin_nx, tri_fC, tri_gVar, tri_f2, tri_f1, tri_fL, tri_aN, tri_aC, tri_fTup, tri_lDis, tri_fNew, tri_fNot, tri_fAnd, tri_fOr, tri_fIf, tri_fCh, tri_tT, tri_t2, tri_tYes, tri_tNo, tri_tAnd, tri_tOr, tri_asB, tri_truB, tri_truI, tri_truL, tri_truT, tri_truN, tri_add, tri_sub, tri_lt, tri_le, tri_gt, tri_ge, tri_int, tri_len, tri_eqI, tri_neI, tri_iSeq, tri_itsL, tri_itsT, tri_iRan, tri_range, tri_iG, tri_enum, tri_comp, tri_tupL, tri_tupT, tri_pure, tri_bind, tri_need, tri_lim, tri_noErr, tri_gIsi, tri_gProp, tri_gInv, tri_gFld, tri_callK, tri_lG, tri_list_tup, tri_isBF, tri_isIN, tri_isBN, vw, allM, Sl.see, dLen1, D.plainOr, isCl, D.tyn, Den.isObj, dFld, pick]
    refine isrow_at (hR.row _ (List.getElem_mem hjr)) b ?_
    simp [tri_runF, triF_seq, triF_nx, triF_rt, triF_bk, triF_ct, triF_ret, triF_if, triF_asg, triF_for, aft_nx, aft_rt, aft_rf, fin_rt, fin_rf, triF_retO, fin_nx, tri_fC, tri_gVar, tri_f2, tri_f1, tri_fL, tri_aN, tri_aC, tri_fTup, tri_lDis, tri_fNew, tri_fNot, tri_fAnd, tri_fOr, tri_fIf, tri_fCh, tri_tT, tri_t2, tri_tYes, tri_tNo, tri_tAnd, tri_tOr, tri_asB, tri_truB, tri_truI, tri_truL, tri_truT, tri_truN, tri_add, tri_sub, tri_lt, tri_le, tri_gt, tri_ge, tri_int, tri_len, tri_eqI, tri_neI, tri_iSeq, tri_itsL, tri_itsT, tri_iRan, tri_range, tri_iG, tri_enum, tri_comp, tri_tupL, tri_tupT, tri_pure, tri_bind, tri_need, tri_lim, tri_noErr, tri_gIsi, tri_gProp, tri_gInv, tri_gFld, tri_callK, tri_lG, tri_list_tup, tri_isBF, tri_isIN, tri_isBN, vw, allM, Sl.see, dLen1, D.plainOr, isCl, D.tyn, Den.isObj, dFld, pick]
  · obtain ⟨em, s4, s5, eρ⟩ := hI
    subst eρ em
    simp only [aft_nx, triF_seq]
    refine triF_fldS rfl (by simp) ?_
    simp [tri_runF, triF_seq, triF_nx, triF_rt, triF_bk, triF_ct, triF_ret, triF_if, triF_asg, triF_for, aft_nx, aft_rt, aft_rf, fin_rt, fin_rf, triF_retO, fin_nx, tri_fC, tri_gVar, tri_f2, tri_f1, tri_fL, tri_aN, tri_aC, tri_fTup, tri_lDis, tri_fNew, tri_fNot, tri_fAnd, tri_fOr, tri_fIf, tri_fCh, tri_tT, tri_t2, tri_tYes, tri_tNo, tri_tAnd, tri_tOr, tri_asB, tri_truB, tri_truI, tri_truL, tri_truT, tri_truN, tri_add, tri_sub, tri_lt, tri_le, tri_gt, tri_ge, tri_int, tri_len, tri_eqI, tri_neI, tri_iSeq, tri_itsL, tri_itsT, tri_iRan, tri_range, tri_iG, tri_enum, tri_comp, tri_tupL, tri_tupT, tri_pure, tri_bind, tri_need, tri_lim, tri_noErr, tri_gIsi, tri_gProp, tri_gInv, tri_gFld, tri_callK, tri_lG, tri_list_tup, tri_isBF, tri_isIN, tri_isBN, vw, allM, Sl.see, dLen1, D.plainOr, isCl, D.tyn, Den.isObj, dFld, pick]
    refine ⟨by omega, tri_compM (fun d => match d with | .lst xs => .tup xs | x => x) _ (fun d hd => ⟨_, rfl, ?_⟩) ?_⟩
    · obtain ⟨r, hr, e⟩ := List.mem_map.mp hd
      subst e
      unfold rowL
      simp [tri_runF, triF_seq, triF_nx, triF_rt, triF_bk, triF_ct, triF_ret, triF_if, triF_asg, triF_for, aft_nx, aft_rt, aft_rf, fin_rt, fin_rf, triF_retO, fin_nx, tri_fC, tri_gVar, tri_f2, tri_f1, tri_fL, tri_aN, tri_aC, tri_fTup, tri_lDis, tri_fNew, tri_fNot, tri_fAnd, tri_fOr, tri_fIf, tri_fCh, tri_tT, tri_t2, tri_tYes, tri_tNo, tri_tAnd, tri_tOr, tri_asB, tri_truB, tri_truI, tri_truL, tri_truT, tri_truN, tri_add, tri_sub, tri_lt, tri_le, tri_gt, tri_ge, tri_int, tri_len, tri_eqI, tri_neI, tri_iSeq, tri_itsL, tri_itsT, tri_iRan, tri_range, tri_iG, tri_enum, tri_comp, tri_tupL, tri_tupT, tri_pure, tri_bind, tri_need, tri_lim, tri_noErr, tri_gIsi, tri_gProp, tri_gInv, tri_gFld, tri_callK, tri_lG, tri_list_tup, tri_isBF, tri_isIN, tri_isBN, vw, allM, Sl.see, dLen1, D.plainOr, isCl, D.tyn, Den.isObj, dFld, pick]
    · refine triF_fldS (fs := _) rfl (by simp [putD]) ?_
      simp [tri_runF, triF_seq, triF_nx, triF_rt, triF_bk, triF_ct, triF_ret, triF_if, triF_asg, triF_for, aft_nx, aft_rt, aft_rf, fin_rt, fin_rf, triF_retO, fin_nx, tri_fC, tri_gVar, tri_f2, tri_f1, tri_fL, tri_aN, tri_aC, tri_fTup, tri_lDis, tri_fNew, tri_fNot, tri_fAnd, tri_fOr, tri_fIf, tri_fCh, tri_tT, tri_t2, tri_tYes, tri_tNo, tri_tAnd, tri_tOr, tri_asB, tri_truB, tri_truI, tri_truL, tri_truT, tri_truN, tri_add, tri_sub, tri_lt, tri_le, tri_gt, tri_ge, tri_int, tri_len, tri_eqI, tri_neI, tri_iSeq, tri_itsL, tri_itsT, tri_iRan, tri_range, tri_iG, tri_enum, tri_comp, tri_tupL, tri_tupT, tri_pure, tri_bind, tri_need, tri_lim, tri_noErr, tri_gIsi, tri_gProp, tri_gInv, tri_gFld, tri_callK, tri_lG, tri_list_tup, tri_isBF, tri_isIN, tri_isBN, vw, allM, Sl.see, dLen1, D.plainOr, isCl, D.tyn, Den.isObj, dFld, pick]
      refine ⟨_, _, ⟨rfl, rfl⟩, ?_⟩
      exact hP
end Hd
set_option Elab.async false
set_option linter.all false
set_option maxRecDepth 100000
set_option maxHeartbeats 4000000
namespace Hd
open PySem PySem.Spec PyProof.Rows L2 Den
def SameT (n : Nat) (x y : D) : Prop := ∀ (m : SM) (P : D → SM → Prop), P (.bl true) m → Tri (den__law_same n [x, y]) m P
theorem tri_eqB {a b : Bool} {m : SM} {P : D → SM → Prop} : Tri (dEq (.bl a) (.bl b)) m P ↔ P (.bl (a == b)) m := by
  unfold dEq dEqB D.py
  have h : (SeqAt.shaped (PyData.bool a) && SeqAt.shaped (PyData.bool b)) = true := by simp [SeqAt.shaped, PyData.canLay0, PyData.depth]
  simp only [h, if_true, PyData.eqv]
  exact tri_pure
theorem tri_neB {a b : Bool} {m : SM} {P : D → SM → Prop} : Tri (dNe (.bl a) (.bl b)) m P ↔ P (.bl (!(a == b))) m := by
  unfold dNe dEqB D.py
  have h : (SeqAt.shaped (PyData.bool a) && SeqAt.shaped (PyData.bool b)) = true := by simp [SeqAt.shaped, PyData.canLay0, PyData.depth]
  simp only [h, if_true, PyData.eqv]
  exact tri_pure
theorem same_bl {n : Nat} (b : Bool) : SameT (n + 1) (.bl b) (.bl b) := fun m P hP => by
  unfold den__law_same
  simp [tri_runF, triF_seq, triF_nx, triF_rt, triF_bk, triF_ct, triF_ret, triF_if, triF_asg, triF_for, aft_nx, aft_rt, aft_rf, fin_rt, fin_rf, triF_retO, fin_nx, tri_fC, tri_gVar, tri_f2, tri_f1, tri_fL, tri_aN, tri_aC, tri_fTup, tri_lDis, tri_fNew, tri_fNot, tri_fAnd, tri_fOr, tri_fIf, tri_fCh, tri_tT, tri_t2, tri_tYes, tri_tNo, tri_tAnd, tri_tOr, tri_asB, tri_truB, tri_truI, tri_truL, tri_truT, tri_truN, tri_add, tri_sub, tri_lt, tri_le, tri_gt, tri_ge, tri_int, tri_len, tri_eqI, tri_neI, tri_iSeq, tri_itsL, tri_itsT, tri_iRan, tri_range, tri_iG, tri_enum, tri_comp, tri_tupL, tri_tupT, tri_pure, tri_bind, tri_need, tri_lim, tri_noErr, tri_gIsi, tri_gProp, tri_gInv, tri_gFld, tri_callK, tri_lG, tri_list_tup, tri_isBF, tri_isIN, tri_isBN, vw, allM, Sl.see, dLen1, D.plainOr, isCl, D.tyn, Den.isObj, dFld, pick]
  simp [tri_eqB]
  exact hP
theorem same_int {n : Nat} (i : Int) : SameT (n + 1) (.int i) (.int i) := fun m P hP => by
  unfold den__law_same
  simp [tri_runF, triF_seq, triF_nx, triF_rt, triF_bk, triF_ct, triF_ret, triF_if, triF_asg, triF_for, aft_nx, aft_rt, aft_rf, fin_rt, fin_rf, triF_retO, fin_nx, tri_fC, tri_gVar, tri_f2, tri_f1, tri_fL, tri_aN, tri_aC, tri_fTup, tri_lDis, tri_fNew, tri_fNot, tri_fAnd, tri_fOr, tri_fIf, tri_fCh, tri_tT, tri_t2, tri_tYes, tri_tNo, tri_tAnd, tri_tOr, tri_asB, tri_truB, tri_truI, tri_truL, tri_truT, tri_truN, tri_add, tri_sub, tri_lt, tri_le, tri_gt, tri_ge, tri_int, tri_len, tri_eqI, tri_neI, tri_iSeq, tri_itsL, tri_itsT, tri_iRan, tri_range, tri_iG, tri_enum, tri_comp, tri_tupL, tri_tupT, tri_pure, tri_bind, tri_need, tri_lim, tri_noErr, tri_gIsi, tri_gProp, tri_gInv, tri_gFld, tri_callK, tri_lG, tri_list_tup, tri_isBF, tri_isIN, tri_isBN, vw, allM, Sl.see, dLen1, D.plainOr, isCl, D.tyn, Den.isObj, dFld, pick]
  exact hP
theorem same_lst {n : Nat} {xs : List D} (hl : xs.length ≤ 1000) (h : ∀ x ∈ xs, SameT n x x) : SameT (n + 1) (.lst xs) (.lst xs) := fun m P hP => by
  unfold den__law_same
  simp [tri_runF, triF_seq, triF_nx, triF_rt, triF_bk, triF_ct, triF_ret, triF_if, triF_asg, triF_for, aft_nx, aft_rt, aft_rf, fin_rt, fin_rf, triF_retO, fin_nx, tri_fC, tri_gVar, tri_f2, tri_f1, tri_fL, tri_aN, tri_aC, tri_fTup, tri_lDis, tri_fNew, tri_fNot, tri_fAnd, tri_fOr, tri_fIf, tri_fCh, tri_tT, tri_t2, tri_tYes, tri_tNo, tri_tAnd, tri_tOr, tri_asB, tri_truB, tri_truI, tri_truL, tri_truT, tri_truN, tri_add, tri_sub, tri_lt, tri_le, tri_gt, tri_ge, tri_int, tri_len, tri_eqI, tri_neI, tri_iSeq, tri_itsL, tri_itsT, tri_iRan, tri_range, tri_iG, tri_enum, tri_comp, tri_tupL, tri_tupT, tri_pure, tri_bind, tri_need, tri_lim, tri_noErr, tri_gIsi, tri_gProp, tri_gInv, tri_gFld, tri_callK, tri_lG, tri_list_tup, tri_isBF, tri_isIN, tri_isBN, vw, allM, Sl.see, dLen1, D.plainOr, isCl, D.tyn, Den.isObj, dFld, pick]
  rw [tri_neB]
  simp [tri_runF, triF_seq, triF_nx, triF_rt, triF_bk, triF_ct, triF_ret, triF_if, triF_asg, triF_for, aft_nx, aft_rt, aft_rf, fin_rt, fin_rf, triF_retO, fin_nx, tri_fC, tri_gVar, tri_f2, tri_f1, tri_fL, tri_aN, tri_aC, tri_fTup, tri_lDis, tri_fNew, tri_fNot, tri_fAnd, tri_fOr, tri_fIf, tri_fCh, tri_tT, tri_t2, tri_tYes, tri_tNo, tri_tAnd, tri_tOr, tri_asB, tri_truB, tri_truI, tri_truL, tri_truT, tri_truN, tri_add, tri_sub, tri_lt, tri_le, tri_gt, tri_ge, tri_int, tri_len, tri_eqI, tri_neI, tri_iSeq, tri_itsL, tri_itsT, tri_iRan, tri_range, tri_iG, tri_enum, tri_comp, tri_tupL, tri_tupT, tri_pure, tri_bind, tri_need, tri_lim, tri_noErr, tri_gIsi, tri_gProp, tri_gInv, tri_gFld, tri_callK, tri_lG, tri_list_tup, tri_isBF, tri_isIN, tri_isBN, vw, allM, Sl.see, dLen1, D.plainOr, isCl, D.tyn, Den.isObj, dFld, pick]
  refine ⟨by omega, by omega, tri_compM (fun _ => .bl true) _ (fun d hd => ?_) ?_⟩
  · obtain ⟨i, hi, e⟩ := List.mem_map.mp hd
    have hi := List.mem_range.mp hi
    subst e
    refine ⟨_, rfl, ?_⟩
    simp only [tri_fL, tri_aC, tri_f2, tri_gVar]
    refine ⟨_, rfl, _, rfl, ?_⟩
    rw [tri_ixL, Den.atI_nat]
    refine ⟨xs[i], List.getElem?_eq_getElem hi, _, rfl, _, rfl, ?_⟩
    rw [tri_ixL, Den.atI_nat]
    refine ⟨xs[i], List.getElem?_eq_getElem hi, tri_aN.mpr ?_⟩
    exact h _ (List.getElem_mem hi) _ _ ⟨rfl, rfl⟩
  · have e : ((List.range xs.length).map fun i : Nat => D.int (i : Int)).map (fun _ => D.bl true) = ((List.range xs.length).map fun _ => true).map .bl := by simp
    rw [e, tri_all, show ((List.range xs.length).map fun _ => true).all id = true from by rw [List.all_map]; exact List.all_eq_true.mpr fun _ _ => rfl]
    exact hP
/-- rows as lists -/
theorem same_row {n : Nat} {r : List Bool} (h : r.length ≤ 1000) : SameT (n + 2) (rowL r) (rowL r) := same_lst (by simpa using h) fun x hx => by
  obtain ⟨b, _, e⟩ := List.mem_map.mp hx
  rw [← e]; exact same_bl b
theorem same_rows {n w : Nat} {rows : List (List Bool)} (hR : Rect w rows) : SameT (n + 3) (.lst (rows.map rowL)) (.lst (rows.map rowL)) := same_lst (by have := hR.high; simp; omega) fun x hx => by
  obtain ⟨r, hr, e⟩ := List.mem_map.mp hx
  rw [← e]
  exact same_row (by rw [hR.row r hr]; have := hR.wide; omega)
theorem make_at {m : SM} {w : Nat} {rows : List (List Bool)} {P : D → SM → Prop} (hR : Rect w rows) (hP : P (tabD w rows) m) : Tri (noErr (do let fs ← deni_Table_init [.lst (rows.map rowL), .int w]; pure (.obj "Table" fs))) m P := by
  simp only [tri_noErr, tri_bind, tri_pure]
  exact init_at hR hP
theorem height_at {m : SM} {w : Nat} {rows : List (List Bool)} {P : D → SM → Prop} (hP : P (.int rows.length) m) : Tri (den_Table_height [tabD w rows]) m P := by
  unfold den_Table_height tabD fieldsD cells
  simp [tri_runF, triF_seq, triF_nx, triF_rt, triF_bk, triF_ct, triF_ret, triF_if, triF_asg, triF_for, aft_nx, aft_rt, aft_rf, fin_rt, fin_rf, triF_retO, fin_nx, tri_fC, tri_gVar, tri_f2, tri_f1, tri_fL, tri_aN, tri_aC, tri_fTup, tri_lDis, tri_fNew, tri_fNot, tri_fAnd, tri_fOr, tri_fIf, tri_fCh, tri_tT, tri_t2, tri_tYes, tri_tNo, tri_tAnd, tri_tOr, tri_asB, tri_truB, tri_truI, tri_truL, tri_truT, tri_truN, tri_add, tri_sub, tri_lt, tri_le, tri_gt, tri_ge, tri_int, tri_len, tri_eqI, tri_neI, tri_iSeq, tri_itsL, tri_itsT, tri_iRan, tri_range, tri_iG, tri_enum, tri_comp, tri_tupL, tri_tupT, tri_pure, tri_bind, tri_need, tri_lim, tri_noErr, tri_gIsi, tri_gProp, tri_gInv, tri_gFld, tri_callK, tri_lG, tri_list_tup, tri_isBF, tri_isIN, tri_isBN, vw, allM, Sl.see, dLen1, D.plainOr, isCl, D.tyn, Den.isObj, dFld, pick]
  rw [tri_ofO]
  refine ⟨_, rfl, ?_⟩
  simpa using hP
theorem width_of_at {m : SM} {w : Nat} {rows : List (List Bool)} {P : D → SM → Prop} (hP : P (.int w) m) : Tri (den_Table_width [tabD w rows]) m P := by
  unfold den_Table_width tabD fieldsD cells
  simp [tri_runF, triF_seq, triF_nx, triF_rt, triF_bk, triF_ct, triF_ret, triF_if, triF_asg, triF_for, aft_nx, aft_rt, aft_rf, fin_rt, fin_rf, triF_retO, fin_nx, tri_fC, tri_gVar, tri_f2, tri_f1, tri_fL, tri_aN, tri_aC, tri_fTup, tri_lDis, tri_fNew, tri_fNot, tri_fAnd, tri_fOr, tri_fIf, tri_fCh, tri_tT, tri_t2, tri_tYes, tri_tNo, tri_tAnd, tri_tOr, tri_asB, tri_truB, tri_truI, tri_truL, tri_truT, tri_truN, tri_add, tri_sub, tri_lt, tri_le, tri_gt, tri_ge, tri_int, tri_len, tri_eqI, tri_neI, tri_iSeq, tri_itsL, tri_itsT, tri_iRan, tri_range, tri_iG, tri_enum, tri_comp, tri_tupL, tri_tupT, tri_pure, tri_bind, tri_need, tri_lim, tri_noErr, tri_gIsi, tri_gProp, tri_gInv, tri_gFld, tri_callK, tri_lG, tri_list_tup, tri_isBF, tri_isIN, tri_isBN, vw, allM, Sl.see, dLen1, D.plainOr, isCl, D.tyn, Den.isObj, dFld, pick]
  rw [tri_ofO]
  exact ⟨_, rfl, hP⟩
theorem rows_at {m : SM} {w : Nat} {rows : List (List Bool)} {P : D → SM → Prop} (hR : Rect w rows) (hP : P (.lst (rows.map rowL)) m) : Tri (den_Table_rows [tabD w rows]) m P := by
  have a := hR.high
  unfold den_Table_rows tabD fieldsD cells
  simp [tri_runF, triF_seq, triF_nx, triF_rt, triF_bk, triF_ct, triF_ret, triF_if, triF_asg, triF_for, aft_nx, aft_rt, aft_rf, fin_rt, fin_rf, triF_retO, fin_nx, tri_fC, tri_gVar, tri_f2, tri_f1, tri_fL, tri_aN, tri_aC, tri_fTup, tri_lDis, tri_fNew, tri_fNot, tri_fAnd, tri_fOr, tri_fIf, tri_fCh, tri_tT, tri_t2, tri_tYes, tri_tNo, tri_tAnd, tri_tOr, tri_asB, tri_truB, tri_truI, tri_truL, tri_truT, tri_truN, tri_add, tri_sub, tri_lt, tri_le, tri_gt, tri_ge, tri_int, tri_len, tri_eqI, tri_neI, tri_iSeq, tri_itsL, tri_itsT, tri_iRan, tri_range, tri_iG, tri_enum, tri_comp, tri_tupL, tri_tupT, tri_pure, tri_bind, tri_need, tri_lim, tri_noErr, tri_gIsi, tri_gProp, tri_gInv, tri_gFld, tri_callK, tri_lG, tri_list_tup, tri_isBF, tri_isIN, tri_isBN, vw, allM, Sl.see, dLen1, D.plainOr, isCl, D.tyn, Den.isObj, dFld, pick]
  rw [tri_ofO]
  refine ⟨_, rfl, ?_⟩
  rw [tri_itsT]
  refine ⟨by simp; omega, tri_compM (fun d => match d with | .tup xs => .lst xs | x => x) _ (fun d hd => ⟨_, rfl, ?_⟩) ?_⟩
  · obtain ⟨r, hr, e⟩ := List.mem_map.mp hd
    subst e
    unfold rowT
    simp [tri_runF, triF_seq, triF_nx, triF_rt, triF_bk, triF_ct, triF_ret, triF_if, triF_asg, triF_for, aft_nx, aft_rt, aft_rf, fin_rt, fin_rf, triF_retO, fin_nx, tri_fC, tri_gVar, tri_f2, tri_f1, tri_fL, tri_aN, tri_aC, tri_fTup, tri_lDis, tri_fNew, tri_fNot, tri_fAnd, tri_fOr, tri_fIf, tri_fCh, tri_tT, tri_t2, tri_tYes, tri_tNo, tri_tAnd, tri_tOr, tri_asB, tri_truB, tri_truI, tri_truL, tri_truT, tri_truN, tri_add, tri_sub, tri_lt, tri_le, tri_gt, tri_ge, tri_int, tri_len, tri_eqI, tri_neI, tri_iSeq, tri_itsL, tri_itsT, tri_iRan, tri_range, tri_iG, tri_enum, tri_comp, tri_tupL, tri_tupT, tri_pure, tri_bind, tri_need, tri_lim, tri_noErr, tri_gIsi, tri_gProp, tri_gInv, tri_gFld, tri_callK, tri_lG, tri_list_tup, tri_isBF, tri_isIN, tri_isBN, vw, allM, Sl.see, dLen1, D.plainOr, isCl, D.tyn, Den.isObj, dFld, pick]
  · have e : (rows.map rowT).map (fun d => match d with | .tup xs => D.lst xs | x => x) = rows.map rowL := by rw [List.map_map]; rfl
    rw [e]; exact hP
theorem columns_at {m : SM} {w : Nat} {rows : List (List Bool)} {P : D → SM → Prop} (hR : Rect w rows) (hP : P (.lst ((trn w rows).map rowL)) m) : Tri (den_Table_columns [tabD w rows]) m P := by
  have a := hR.high
  have b := hR.wide
  unfold den_Table_columns tabD fieldsD cells
  simp [tri_runF, triF_seq, triF_nx, triF_rt, triF_bk, triF_ct, triF_ret, triF_if, triF_asg, triF_for, aft_nx, aft_rt, aft_rf, fin_rt, fin_rf, triF_retO, fin_nx, tri_fC, tri_gVar, tri_f2, tri_f1, tri_fL, tri_aN, tri_aC, tri_fTup, tri_lDis, tri_fNew, tri_fNot, tri_fAnd, tri_fOr, tri_fIf, tri_fCh, tri_tT, tri_t2, tri_tYes, tri_tNo, tri_tAnd, tri_tOr, tri_asB, tri_truB, tri_truI, tri_truL, tri_truT, tri_truN, tri_add, tri_sub, tri_lt, tri_le, tri_gt, tri_ge, tri_int, tri_len, tri_eqI, tri_neI, tri_iSeq, tri_itsL, tri_itsT, tri_iRan, tri_range, tri_iG, tri_enum, tri_comp, tri_tupL, tri_tupT, tri_pure, tri_bind, tri_need, tri_lim, tri_noErr, tri_gIsi, tri_gProp, tri_gInv, tri_gFld, tri_callK, tri_lG, tri_list_tup, tri_isBF, tri_isIN, tri_isBN, vw, allM, Sl.see, dLen1, D.plainOr, isCl, D.tyn, Den.isObj, dFld, pick]
  rw [tri_ofO]
  refine ⟨_, rfl, ?_⟩
  rw [tri_range]
  refine ⟨⟨by omega, by omega⟩, by simp; omega, tri_compM (fun d => match d with | .int k => rowL (rows.map fun r => r.getD k.toNat false) | x => x) _ (fun d hd => ⟨_, rfl, ?_⟩) ?_⟩
  · obtain ⟨i, hi, e⟩ := List.mem_map.mp hd
    have hi := List.mem_range.mp hi
    subst e
    simp [tri_runF, triF_seq, triF_nx, triF_rt, triF_bk, triF_ct, triF_ret, triF_if, triF_asg, triF_for, aft_nx, aft_rt, aft_rf, fin_rt, fin_rf, triF_retO, fin_nx, tri_fC, tri_gVar, tri_f2, tri_f1, tri_fL, tri_aN, tri_aC, tri_fTup, tri_lDis, tri_fNew, tri_fNot, tri_fAnd, tri_fOr, tri_fIf, tri_fCh, tri_tT, tri_t2, tri_tYes, tri_tNo, tri_tAnd, tri_tOr, tri_asB, tri_truB, tri_truI, tri_truL, tri_truT, tri_truN, tri_add, tri_sub, tri_lt, tri_le, tri_gt, tri_ge, tri_int, tri_len, tri_eqI, tri_neI, tri_iSeq, tri_itsL, tri_itsT, tri_iRan, tri_range, tri_iG, tri_enum, tri_comp, tri_tupL, tri_tupT, tri_pure, tri_bind, tri_need, tri_lim, tri_noErr, tri_gIsi, tri_gProp, tri_gInv, tri_gFld, tri_callK, tri_lG, tri_list_tup, tri_isBF, tri_isIN, tri_isBN, vw, allM, Sl.see, dLen1, D.plainOr, isCl, D.tyn, Den.isObj, dFld, pick]
    rw [tri_ofO]
    refine ⟨_, rfl, ?_⟩
    rw [tri_itsT]
    refine ⟨by simp; omega, tri_compM (fun d => match d with | .tup xs => (match xs[i]? with | some z => z | none => .non) | _ => .non) _ (fun d hd => ?_) ?_⟩
    · obtain ⟨r, hr, e⟩ := List.mem_map.mp hd
      subst e
      refine ⟨_, rfl, ?_⟩
      unfold rowT
      simp only [tri_f2, tri_gVar]
      refine ⟨_, rfl, _, rfl, ?_⟩
      rw [tri_ixT, Den.atI_nat]
      have hir : i < r.length := by rw [hR.row r hr]; omega
      exact ⟨.bl r[i], by simp [hir], rfl, by simp [hir]⟩
    · refine ⟨rfl, ?_⟩
      unfold rowL
      rw [List.map_map, List.map_map]
      congr 1
      refine List.map_congr_left fun r hr => ?_
      have hir : i < r.length := by rw [hR.row r hr]; omega
      simp [rowT, hir]
  · have e : (((List.range (w : Int).toNat).map fun i : Nat => D.int (i : Int))).map (fun d => match d with | .int k => rowL (rows.map fun r => r.getD k.toNat false) | x => x) = (trn w rows).map rowL := by
      rw [List.map_map, trn, List.map_map, Int.toNat_natCast]
      refine List.map_congr_left fun k hk => ?_
      simp
    rw [e]; exact hP
end Hd
set_option Elab.async false
set_option linter.all false
set_option maxRecDepth 100000
set_option maxHeartbeats 4000000
namespace Hd
open PySem PySem.Spec PyProof.Rows L2 Den
theorem trn_rect {w : Nat} {rows : List (List Bool)} (h : Rect w rows) : Rect rows.length (trn w rows) :=
  ⟨by rw [(trn_ok rows.length w rows rfl).1]; exact h.wide, h.high, (trn_ok rows.length w rows rfl).2⟩
theorem trn_len (w : Nat) (rows : List (List Bool)) : (trn w rows).length = w := by simp [trn]
theorem turned_at {m : SM} {w : Nat} {rows : List (List Bool)} {P : D → SM → Prop} (hR : Rect w rows) (hP : P (tabD rows.length (trn w rows)) m) : Tri (den_turned [tabD w rows]) m P := by
  unfold den_turned
  simp [tri_runF, triF_seq, triF_nx, triF_rt, triF_bk, triF_ct, triF_ret, triF_if, triF_asg, triF_for, aft_nx, aft_rt, aft_rf, fin_rt, fin_rf, triF_retO, fin_nx, tri_fC, tri_gVar, tri_f2, tri_f1, tri_fL, tri_aN, tri_aC, tri_fTup, tri_lDis, tri_fNew, tri_fNot, tri_fAnd, tri_fOr, tri_fIf, tri_fCh, tri_tT, tri_t2, tri_tYes, tri_tNo, tri_tAnd, tri_tOr, tri_asB, tri_truB, tri_truI, tri_truL, tri_truT, tri_truN, tri_add, tri_sub, tri_lt, tri_le, tri_gt, tri_ge, tri_int, tri_len, tri_eqI, tri_neI, tri_iSeq, tri_itsL, tri_itsT, tri_iRan, tri_range, tri_iG, tri_enum, tri_comp, tri_tupL, tri_tupT, tri_pure, tri_bind, tri_need, tri_lim, tri_noErr, tri_gIsi, tri_gProp, tri_gInv, tri_gFld, tri_callK, tri_lG, tri_list_tup, tri_isBF, tri_isIN, tri_isBN, vw, allM, Sl.see, dLen1, D.plainOr, isCl, D.tyn, Den.isObj, dFld, pick]
  refine ⟨rfl, columns_at hR ⟨rfl, height_at ?_⟩⟩
  have := make_at (m := m) (P := P) (trn_rect hR) hP
  simpa [tri_noErr, tri_bind, tri_pure] using this
theorem shows_at {m : SM} {w : Nat} {rows : List (List Bool)} {P : D → SM → Prop} (hR : Rect w rows) (hP : P (.bl true) m) : Tri (den__law_shows [tabD w rows, gridD rows.length w rows]) m P := by
  have a := hR.high
  have b := hR.wide
  unfold den__law_shows
  simp [tri_runF, triF_seq, triF_nx, triF_rt, triF_bk, triF_ct, triF_ret, triF_if, triF_asg, triF_for, aft_nx, aft_rt, aft_rf, fin_rt, fin_rf, triF_retO, fin_nx, tri_fC, tri_gVar, tri_f2, tri_f1, tri_fL, tri_aN, tri_aC, tri_fTup, tri_lDis, tri_fNew, tri_fNot, tri_fAnd, tri_fOr, tri_fIf, tri_fCh, tri_tT, tri_t2, tri_tYes, tri_tNo, tri_tAnd, tri_tOr, tri_asB, tri_truB, tri_truI, tri_truL, tri_truT, tri_truN, tri_add, tri_sub, tri_lt, tri_le, tri_gt, tri_ge, tri_int, tri_len, tri_eqI, tri_neI, tri_iSeq, tri_itsL, tri_itsT, tri_iRan, tri_range, tri_iG, tri_enum, tri_comp, tri_tupL, tri_tupT, tri_pure, tri_bind, tri_need, tri_lim, tri_noErr, tri_gIsi, tri_gProp, tri_gInv, tri_gFld, tri_callK, tri_lG, tri_list_tup, tri_isBF, tri_isIN, tri_isBN, vw, allM, Sl.see, dLen1, D.plainOr, isCl, D.tyn, Den.isObj, dFld, pick]
  have hg : IsGrid rows.length w (gridD rows.length w rows) := IsGrid.mk ⟨rows, rfl, hR.row, rfl⟩
  have two : SameT 6 (.lst [.int rows.length, .int w]) (.lst [.int rows.length, .int w]) := same_lst (n := 5) (by simp) fun x hx => by
    simp at hx
    rcases hx with e | e <;> (rw [e]; exact same_int _)
  refine ⟨rfl, ?_⟩
  rw [if_pos]
  rotate_left
  · rfl
  refine ⟨rfl, height_at ⟨rfl, width_of_at (gridD_h hg (gridD_w hg (two _ _ ?_)))⟩⟩
  rw [tri_truB, if_pos rfl]
  refine ⟨rfl, rows_at hR ?_⟩
  have d3 : ∀ Q : D → SM → Prop, Q (cells rows) m → Tri (dIx (gridD rows.length w rows) (.int 3)) m Q := fun Q q => by
    unfold gridD
    rw [tri_ixT]
    exact ⟨_, rfl, q⟩
  refine d3 _ ?_
  unfold cells
  rw [tri_itsT]
  refine ⟨by simp; omega, tri_compM (fun d => match d with | .tup xs => .lst xs | x => x) _ (fun d hd => ⟨_, rfl, ?_⟩) ?_⟩
  · obtain ⟨r, hr, e⟩ := List.mem_map.mp hd
    subst e
    have hl := hR.row r hr
    unfold rowT
    simp [tri_runF, triF_seq, triF_nx, triF_rt, triF_bk, triF_ct, triF_ret, triF_if, triF_asg, triF_for, aft_nx, aft_rt, aft_rf, fin_rt, fin_rf, triF_retO, fin_nx, tri_fC, tri_gVar, tri_f2, tri_f1, tri_fL, tri_aN, tri_aC, tri_fTup, tri_lDis, tri_fNew, tri_fNot, tri_fAnd, tri_fOr, tri_fIf, tri_fCh, tri_tT, tri_t2, tri_tYes, tri_tNo, tri_tAnd, tri_tOr, tri_asB, tri_truB, tri_truI, tri_truL, tri_truT, tri_truN, tri_add, tri_sub, tri_lt, tri_le, tri_gt, tri_ge, tri_int, tri_len, tri_eqI, tri_neI, tri_iSeq, tri_itsL, tri_itsT, tri_iRan, tri_range, tri_iG, tri_enum, tri_comp, tri_tupL, tri_tupT, tri_pure, tri_bind, tri_need, tri_lim, tri_noErr, tri_gIsi, tri_gProp, tri_gInv, tri_gFld, tri_callK, tri_lG, tri_list_tup, tri_isBF, tri_isIN, tri_isBN, vw, allM, Sl.see, dLen1, D.plainOr, isCl, D.tyn, Den.isObj, dFld, pick]
    refine ⟨by omega, tri_compM (fun c => c) _ (fun d hd => ⟨_, rfl, ?_⟩) ?_⟩
    · rw [tri_gVar]; exact ⟨_, rfl, rfl, rfl⟩
    · simp
  · have e : (rows.map rowT).map (fun d => match d with | .tup xs => D.lst xs | x => x) = rows.map rowL := by rw [List.map_map]; rfl
    rw [e]
    exact same_rows (n := 3) hR _ _ hP
end Hd
set_option Elab.async false
set_option linter.all false
set_option maxRecDepth 100000
set_option maxHeartbeats 4000000
namespace Den
open PySem PySem.Spec PyProof.Rows L2
theorem triF_run {x : M Fl} {m : SM} {g : Fl} (h : TriF x m fun f _ => f = g) : ∃ m', x m = .ok g m' := by
  unfold TriF at h
  cases e : x m with
  | ok f m' =>
    rw [e] at h
    cases f <;> first | exact h.elim | exact ⟨m', by rw [h]⟩
  | err c fs m' => rw [e] at h; exact h.elim
  | bad => rw [e] at h; exact h.elim
end Den
namespace Hd
open PySem PySem.Spec PyProof.Rows L2 Den
theorem isT (w : Nat) (rows : List (List Bool)) : Den.isObj "Table" (tabD w rows) = true := rfl
theorem table_at {m : SM} {w : Nat} {rows : List (List Bool)} {P : D → SM → Prop} (hR : Rect w rows) (hP : P (tabD w rows) m) : Tri (den__law_table [gridD rows.length w rows]) m P := by
  have a := hR.high
  have b := hR.wide
  unfold den__law_table
  unfold gridD
  simp [tri_runF, triF_seq, triF_nx, triF_rt, triF_bk, triF_ct, triF_ret, triF_if, triF_asg, triF_for, aft_nx, aft_rt, aft_rf, fin_rt, fin_rf, triF_retO, fin_nx, tri_fC, tri_gVar, tri_f2, tri_f1, tri_fL, tri_aN, tri_aC, tri_fTup, tri_lDis, tri_fNew, tri_fNot, tri_fAnd, tri_fOr, tri_fIf, tri_fCh, tri_tT, tri_t2, tri_tYes, tri_tNo, tri_tAnd, tri_tOr, tri_asB, tri_truB, tri_truI, tri_truL, tri_truT, tri_truN, tri_add, tri_sub, tri_lt, tri_le, tri_gt, tri_ge, tri_int, tri_len, tri_eqI, tri_neI, tri_iSeq, tri_itsL, tri_itsT, tri_iRan, tri_range, tri_iG, tri_enum, tri_comp, tri_tupL, tri_tupT, tri_pure, tri_bind, tri_need, tri_lim, tri_noErr, tri_gIsi, tri_gProp, tri_gInv, tri_gFld, tri_callK, tri_lG, tri_list_tup, tri_isBF, tri_isIN, tri_isBN, vw, allM, Sl.see, dLen1, D.plainOr, isCl, D.tyn, Den.isObj, dFld, pick]
  simp [tri_ixT, atI, ixN]
  rw [tri_itsT]
  refine ⟨by simp; omega, tri_compM (fun d => match d with | .tup xs => .lst xs | x => x) _ (fun d hd => ⟨_, rfl, ?_⟩) ?_⟩
  · obtain ⟨r, hr, e⟩ := List.mem_map.mp hd
    have hl := hR.row r hr
    subst e
    simp [tri_runF, triF_seq, triF_nx, triF_rt, triF_bk, triF_ct, triF_ret, triF_if, triF_asg, triF_for, aft_nx, aft_rt, aft_rf, fin_rt, fin_rf, triF_retO, fin_nx, tri_fC, tri_gVar, tri_f2, tri_f1, tri_fL, tri_aN, tri_aC, tri_fTup, tri_lDis, tri_fNew, tri_fNot, tri_fAnd, tri_fOr, tri_fIf, tri_fCh, tri_tT, tri_t2, tri_tYes, tri_tNo, tri_tAnd, tri_tOr, tri_asB, tri_truB, tri_truI, tri_truL, tri_truT, tri_truN, tri_add, tri_sub, tri_lt, tri_le, tri_gt, tri_ge, tri_int, tri_len, tri_eqI, tri_neI, tri_iSeq, tri_itsL, tri_itsT, tri_iRan, tri_range, tri_iG, tri_enum, tri_comp, tri_tupL, tri_tupT, tri_pure, tri_bind, tri_need, tri_lim, tri_noErr, tri_gIsi, tri_gProp, tri_gInv, tri_gFld, tri_callK, tri_lG, tri_list_tup, tri_isBF, tri_isIN, tri_isBN, vw, allM, Sl.see, dLen1, D.plainOr, isCl, D.tyn, Den.isObj, dFld, pick]
    refine ⟨by omega, tri_compM (fun c => c) _ (fun d hd => ⟨_, rfl, ?_⟩) ?_⟩
    · rw [tri_gVar]; exact ⟨_, rfl, rfl, rfl⟩
    · simp
  · have e : (rows.map fun r => D.tup (r.map .bl)).map (fun d => match d with | .tup xs => D.lst xs | x => x) = rows.map rowL := by rw [List.map_map]; rfl
    rw [e]
    have := make_at (m := m) (P := P) hR hP
    simpa [tri_noErr, tri_bind, tri_pure] using this
end Hd
set_option Elab.async false
set_option linter.all false
set_option maxRecDepth 100000
set_option maxHeartbeats 4000000
namespace Den
open PySem PySem.Spec PyProof.Rows L2
def finF (P : List D → SM → Prop) : Fl → SM → Prop
  | .rf ds, m => P ds m
  | _, _ => False
theorem tri_runFF {m : SM} {G : SV → M Fl} {P : List D → SM → Prop} {p n : Nat} {ds : List D} : Tri (runFF p n G ds) m P ↔ ds.length = p ∧ TriF (G (ds.map .va ++ List.replicate (n - p) .no)) m (finF P) := by
  unfold Tri runFF
  by_cases h : ds.length = p
  · rw [if_pos h]
    unfold TriF
    cases e : G (ds.map .va ++ List.replicate (n - p) .no) m with
    | ok f m' => cases f <;> simp [finF, h]
    | err c fs m' => simp
    | bad => simp
  · rw [if_neg h]; simp [h]
end Den
namespace Hd
open PySem PySem.Spec PyProof.Rows L2 Den
theorem filt_ints (q : Int → Bool) : ∀ ks : List Int, (ks.map D.int).filterMap (fun d => match d with | .int k => if q k = true then some d else none | _ => none) = (ks.filter q).map .int
  | [] => rfl
  | k :: ks => by
    rw [List.map_cons, List.filterMap_cons, List.filter_cons]
    by_cases h : q k = true
    · rw [if_pos h]; simp only [h, if_true]; rw [filt_ints q ks]; rfl
    · rw [if_neg h]; simp only [h]; rw [filt_ints q ks]; rfl
/-- the lot of a row -/
def lotN (w : Nat) (r : List Bool) : List Int := ((List.range w).filter fun i => r.getD i false).map fun i : Nat => (i : Int)
def lotR (w : Nat) (r : List Bool) : D := .tup ((lotN w r).map .int)
theorem lotN_mem {w : Nat} {r : List Bool} {k : Int} : k ∈ lotN w r ↔ ∃ i : Nat, i < w ∧ r.getD i false = true ∧ k = i := by
  unfold lotN
  simp only [List.mem_map, List.mem_filter, List.mem_range]
  exact ⟨fun ⟨i, ⟨a, b⟩, c⟩ => ⟨i, a, b, c.symm⟩, fun ⟨i, a, b, c⟩ => ⟨i, ⟨a, b⟩, c.symm⟩⟩
theorem range_filt (w : Nat) (r : List Bool) : ((List.range w).map fun i : Nat => D.int (i : Int)).filterMap (fun d => match d with | .int k => if r.getD k.toNat false = true then some d else none | _ => none) = (lotN w r).map .int := by
  have e : ((List.range w).map fun i : Nat => D.int (i : Int)) = ((List.range w).map fun i : Nat => (i : Int)).map D.int := by rw [List.map_map]; rfl
  rw [e]
  have := filt_ints (fun k => r.getD k.toNat false) ((List.range w).map fun i : Nat => (i : Int))
  rw [this]
  unfold lotN
  rw [List.filter_map]
  rfl
end Hd
set_option Elab.async false
set_option linter.all false
set_option maxRecDepth 100000
set_option maxHeartbeats 4000000
set_option Elab.async false
set_option linter.all false
set_option maxRecDepth 100000
set_option maxHeartbeats 4000000
namespace Den
open PySem PySem.Spec PyProof.Rows L2
section
variable {m : SM} {P : D → SM → Prop} {ρ : EV} {F G : EV → M D}
theorem triF_exp {P : Fl → SM → Prop} {ρ : SV} : TriF (gExp F ρ) m P ↔ Tri (F (vw [] ρ)) m fun _ m => P (.nx ρ) m := by unfold gExp; rw [triF_exB]; simp only [triF_nx]
end
end Den
namespace Hd
open PySem PySem.Spec PyProof.Rows L2 Den
theorem same_tup {n : Nat} {xs : List D} (hl : xs.length ≤ 1000) (h : ∀ x ∈ xs, SameT n x x) : SameT (n + 1) (.tup xs) (.tup xs) := fun m P hP => by
  unfold den__law_same
  simp [tri_runF, triF_seq, triF_nx, triF_rt, triF_bk, triF_ct, triF_ret, triF_if, triF_asg, triF_for, aft_nx, aft_rt, aft_rf, fin_rt, fin_rf, triF_retO, fin_nx, tri_fC, tri_gVar, tri_f2, tri_f1, tri_fL, tri_aN, tri_aC, tri_fTup, tri_lDis, tri_fNew, tri_fNot, tri_fAnd, tri_fOr, tri_fIf, tri_fCh, tri_tT, tri_t2, tri_tYes, tri_tNo, tri_tAnd, tri_tOr, tri_asB, tri_truB, tri_truI, tri_truL, tri_truT, tri_truN, tri_add, tri_sub, tri_lt, tri_le, tri_gt, tri_ge, tri_int, tri_len, tri_eqI, tri_neI, tri_iSeq, tri_itsL, tri_itsT, tri_iRan, tri_range, tri_iG, tri_enum, tri_comp, tri_tupL, tri_tupT, tri_pure, tri_bind, tri_need, tri_lim, tri_noErr, tri_gIsi, tri_gProp, tri_gInv, tri_gFld, tri_callK, tri_lG, tri_list_tup, tri_isBF, tri_isIN, tri_isBN, vw, allM, Sl.see, dLen1, D.plainOr, isCl, D.tyn, Den.isObj, dFld, pick]
  rw [tri_neB]
  simp [tri_runF, triF_seq, triF_nx, triF_rt, triF_bk, triF_ct, triF_ret, triF_if, triF_asg, triF_for, aft_nx, aft_rt, aft_rf, fin_rt, fin_rf, triF_retO, fin_nx, tri_fC, tri_gVar, tri_f2, tri_f1, tri_fL, tri_aN, tri_aC, tri_fTup, tri_lDis, tri_fNew, tri_fNot, tri_fAnd, tri_fOr, tri_fIf, tri_fCh, tri_tT, tri_t2, tri_tYes, tri_tNo, tri_tAnd, tri_tOr, tri_asB, tri_truB, tri_truI, tri_truL, tri_truT, tri_truN, tri_add, tri_sub, tri_lt, tri_le, tri_gt, tri_ge, tri_int, tri_len, tri_eqI, tri_neI, tri_iSeq, tri_itsL, tri_itsT, tri_iRan, tri_range, tri_iG, tri_enum, tri_comp, tri_tupL, tri_tupT, tri_pure, tri_bind, tri_need, tri_lim, tri_noErr, tri_gIsi, tri_gProp, tri_gInv, tri_gFld, tri_callK, tri_lG, tri_list_tup, tri_isBF, tri_isIN, tri_isBN, vw, allM, Sl.see, dLen1, D.plainOr, isCl, D.tyn, Den.isObj, dFld, pick]
  refine ⟨by omega, by omega, tri_compM (fun _ => .bl true) _ (fun d hd => ?_) ?_⟩
  · obtain ⟨i, hi, e⟩ := List.mem_map.mp hd
    have hi := List.mem_range.mp hi
    subst e
    refine ⟨_, rfl, ?_⟩
    simp only [tri_fL, tri_aC, tri_f2, tri_gVar]
    refine ⟨_, rfl, _, rfl, ?_⟩
    rw [tri_ixT, Den.atI_nat]
    refine ⟨xs[i], List.getElem?_eq_getElem hi, _, rfl, _, rfl, ?_⟩
    rw [tri_ixT, Den.atI_nat]
    refine ⟨xs[i], List.getElem?_eq_getElem hi, tri_aN.mpr ?_⟩
    exact h _ (List.getElem_mem hi) _ _ ⟨rfl, rfl⟩
  · have e : ((List.range xs.length).map fun i : Nat => D.int (i : Int)).map (fun _ => D.bl true) = ((List.range xs.length).map fun _ => true).map .bl := by simp
    rw [e, tri_all, show ((List.range xs.length).map fun _ => true).all id = true from by rw [List.all_map]; exact List.all_eq_true.mpr fun _ _ => rfl]
    exact hP
end Hd
set_option Elab.async false
set_option linter.all false
set_option maxRecDepth 100000
set_option maxHeartbeats 4000000
set_option Elab.async false
set_option linter.all false
set_option maxRecDepth 100000
set_option maxHeartbeats 4000000
namespace Den
open PySem PySem.Spec PyProof.Rows L2
end Den
namespace Hd
open PySem PySem.Spec PyProof.Rows L2 Den
theorem fld_cells {m : SM} {w : Nat} {rows : List (List Bool)} {P : D → SM → Prop} (hP : P (cells rows) m) : Tri (dFld "Table" "_cells" (tabD w rows)) m P := by
  unfold tabD fieldsD
  simp [tri_runF, triF_seq, triF_nx, triF_rt, triF_bk, triF_ct, triF_ret, triF_if, triF_asg, triF_for, aft_nx, aft_rt, aft_rf, fin_rt, fin_rf, triF_retO, fin_nx, tri_fC, tri_gVar, tri_f2, tri_f1, tri_fL, tri_aN, tri_aC, tri_fTup, tri_lDis, tri_fNew, tri_fNot, tri_fAnd, tri_fOr, tri_fIf, tri_fCh, tri_tT, tri_t2, tri_tYes, tri_tNo, tri_tAnd, tri_tOr, tri_asB, tri_truB, tri_truI, tri_truL, tri_truT, tri_truN, tri_add, tri_sub, tri_lt, tri_le, tri_gt, tri_ge, tri_int, tri_len, tri_eqI, tri_neI, tri_iSeq, tri_itsL, tri_itsT, tri_iRan, tri_range, tri_iG, tri_enum, tri_comp, tri_tupL, tri_tupT, tri_pure, tri_bind, tri_need, tri_lim, tri_noErr, tri_gIsi, tri_gProp, tri_gInv, tri_gFld, tri_callK, tri_lG, tri_list_tup, tri_isBF, tri_isIN, tri_isBN, vw, allM, Sl.see, dLen1, D.plainOr, isCl, D.tyn, Den.isObj, dFld, pick]
  rw [tri_ofO]
  exact ⟨_, rfl, hP⟩
end Hd
set_option Elab.async false
set_option linter.all false
set_option maxRecDepth 100000
set_option maxHeartbeats 4000000
set_option Elab.async false
set_option linter.all false
set_option maxRecDepth 100000
set_option maxHeartbeats 4000000
set_option Elab.async false
set_option linter.all false
set_option maxRecDepth 100000
set_option maxHeartbeats 4000000
namespace Hd
open PySem PySem.Spec PyProof.Rows L2 Den
theorem grid_ex {h w : Nat} {d : D} (g : IsGrid h w d) (h1 : h ≤ 6) (h2 : w ≤ 6) : ∃ rows, rows.length = h ∧ Rect w rows ∧ d = gridD h w rows := by
  obtain ⟨rows, a, b, e⟩ := g.ex
  exact ⟨rows, a, ⟨by omega, h2, b⟩, e⟩
end Hd
set_option Elab.async false
set_option linter.all false
set_option maxRecDepth 100000
set_option maxHeartbeats 4000000
set_option Elab.async false
set_option linter.all false
set_option maxRecDepth 100000
set_option maxHeartbeats 4000000
set_option Elab.async false
set_option linter.all false
set_option maxRecDepth 100000
set_option maxHeartbeats 4000000
set_option Elab.async false
set_option linter.all false
set_option maxRecDepth 100000
set_option maxHeartbeats 4000000
set_option Elab.async false
set_option linter.all false
set_option maxRecDepth 100000
set_option maxHeartbeats 4000000
namespace Hd
open PySem PySem.Spec PyProof.Rows L2 Den
section
variable {m : SM} {P : D → SM → Prop} {n w : Nat} {a b x : List (List Bool)}
theorem ixT_at {xs : List D} {i : Nat} {d : D} (h : xs[i]? = some d) (q : P d m) : Tri (dIx (.tup xs) (.int (i : Nat))) m P := by
  rw [tri_ixT, Den.atI_nat]
  exact ⟨d, h, q⟩
theorem tri_enumT {xs : List D} {Q : List D → SM → Prop} : Tri (dEnumT [.tup xs]) m Q ↔ Q (enumD xs) m := by unfold Tri; exact Iff.rfl
theorem enum_at {xs : List D} {j : Nat} {d : D} (h : (enumD xs)[j]? = some d) : ∃ e, xs[j]? = some e ∧ d = .tup [.int (j : Nat), e] := by
  unfold enumD at h
  rw [List.getElem?_map, List.getElem?_zipIdx] at h
  cases q : xs[j]? with
  | none => rw [q] at h; cases h
  | some e => rw [q] at h; cases h; exact ⟨e, rfl, by simp⟩
end
end Hd
set_option Elab.async false
set_option linter.all false
set_option maxRecDepth 100000
set_option maxHeartbeats 4000000
set_option Elab.async false
set_option linter.all false
set_option maxRecDepth 100000
set_option maxHeartbeats 4000000
set_option Elab.async false
set_option linter.all false
set_option maxRecDepth 100000
set_option maxHeartbeats 4000000
namespace Hd
open PySem PySem.Spec PyProof.Rows L2 Den
section
variable {m : SM} {P : D → SM → Prop}
theorem some_grid_at {h w : Nat} (hm : SI m) (h1 : h ≤ 6) (h2 : w ≤ 6) (hP : ∀ m' d, SI m' → IsGrid h w d → P d m') : Tri (den__law_some_grid [.sto, .int (h : Nat), .int (w : Nat)]) m P := by
  unfold den__law_some_grid
  rw [tri_runF]
  refine ⟨rfl, ?_⟩
  rw [triF_seq, triF_asg]
  simp only [tri_fL, tri_aC, tri_gVar, tri_aN, tri_fC]
  refine ⟨_, rfl, take_at (k := 6) hm (by omega) fun m1 z s1 z0 z1 => ⟨rfl, ?_⟩⟩
  rw [aft_nx, triF_seq, triF_if]
  simp only [tri_t2, tri_gVar, tri_fC]
  refine ⟨_, rfl, ?_⟩
  rw [tri_eqI, tri_asB]
  split
  · rw [triF_seq, triF_asg]
    simp only [tri_fL, tri_aC, tri_fNew, tri_lDis, tri_fTup, tri_comp, tri_iRan, tri_gVar, tri_aN]
    refine ⟨_, rfl, by simp, _, rfl, rfl, ?_⟩
    rw [tri_range]
    refine ⟨by omega, by simp; omega, ran_comp (by exact (by decide : 7 < 8)) ?_⟩
    rw [tri_tupL]
    refine ⟨by simp, pick_at s1 (by simp) (by simp) fun m2 d s2 hd => ⟨rfl, ?_⟩⟩
    have hl : IsLot w d := by
      simp at hd
      rcases hd with e | e
      · rw [e]; exact nil_lot
      · rw [e]; exact every_lot w (by omega)
    rw [aft_nx, triF_ret]
    simp only [tri_fL, tri_aC, tri_fNew, tri_comp, tri_iRan, tri_gVar, tri_aN]
    refine ⟨_, rfl, rfl, ?_⟩
    rw [tri_range]
    refine ⟨by omega, by simp; omega, tri_compM (fun _ => d) _ (fun d' hd' => ?_) ?_⟩
    · obtain ⟨i, _, e⟩ := List.mem_map.mp hd'
      subst e
      refine ⟨_, rfl, ?_⟩
      rw [tri_gVar]
      exact ⟨_, rfl, rfl, rfl⟩
    · refine ⟨_, rfl, of_at (fun x hx => ?_) (by simp; omega) (by omega) fun d2 g2 => ?_⟩
      · obtain ⟨_, _, e⟩ := List.mem_map.mp hx
        rw [← e]; exact hl
      · have e : (((List.range (h : Int).toNat).map fun i : Nat => D.int (i : Int)).map fun _ => d).length = h := by simp
        rw [e] at g2
        exact hP m2 d2 s2 g2
  rw [triF_nx, aft_nx, triF_seq, triF_if]
  simp only [tri_t2, tri_gVar, tri_fC]
  refine ⟨_, rfl, ?_⟩
  rw [tri_eqI, tri_asB]
  split
  · rw [triF_seq, triF_asg]
    simp only [tri_fL, tri_aC, tri_gVar, tri_aN]
    refine ⟨_, rfl, _, rfl, _, rfl, ?_⟩
    rw [tri_max]
    have em : (if (w : Int) > (h : Int) then (w : Int) else (h : Int)) = ((if w > h then w else h : Nat) : Int) := by split <;> split <;> omega
    rw [em]
    generalize en : (if w > h then w else h : Nat) = n
    have hn : h ≤ n ∧ n ≤ 6 := by rw [← en]; split <;> omega
    refine placing_at s1 (by omega) fun m2 p s2 hp => ⟨rfl, ?_⟩
    rw [aft_nx, triF_ret]
    simp only [tri_fL, tri_aC, tri_fNew, tri_comp, tri_iRan, tri_gVar, tri_aN]
    refine ⟨_, rfl, rfl, ?_⟩
    rw [tri_range]
    refine ⟨by omega, by simp; omega, ?_⟩
    refine tri_compE (fun m3 => m3 = m2) (fun d y => IsLot w y) true _ rfl (fun d hd m3 em => ?_) fun ys m3 em ll la l4 => ?_
    · subst em
      obtain ⟨i, hi, e⟩ := List.mem_map.mp hd
      have hi := List.mem_range.mp hi
      rw [Int.toNat_natCast] at hi
      subst e
      refine ⟨_, rfl, ?_⟩
      rw [tri_tYes, if_pos rfl]
      simp only [tri_fL, tri_aC, tri_fNew, tri_comp, tri_iRan, tri_gVar, tri_aN]
      refine ⟨_, rfl, rfl, ?_⟩
      rw [tri_range]
      refine ⟨by omega, by simp; omega, ?_⟩
      refine tri_compE (fun m4 => m4 = m3) (fun d y => y = d) false _ rfl (fun d hd m4 em => ?_) fun ds m4 em ll4 _ l5 => ?_
      · subst em
        obtain ⟨k, hk, e⟩ := List.mem_map.mp hd
        subst e
        refine ⟨_, rfl, ?_⟩
        simp only [tri_t2, tri_f2, tri_gVar]
        refine ⟨_, rfl, _, rfl, _, rfl, ?_⟩
        obtain ⟨ks, e2, l2, _⟩ := hp.ex
        have hik : i < ks.length := by omega
        rw [e2, tri_ixT, Den.atI_nat]
        refine ⟨.int ks[i], by simp [hik], ?_⟩
        rw [tri_eqI, tri_asB]
        split
        · exact ⟨_, rfl, rfl, rfl⟩
        · first | exact ⟨rfl, rfl⟩ | exact ⟨trivial, rfl⟩
      · subst em
        rw [tri_tupL]
        exact ⟨lot_of (by simp at ll4; omega) fun y hy => by simpa using l5 y hy, rfl⟩
    · subst em
      have hlen : ys.length = h := by simpa using la rfl
      refine ⟨_, rfl, of_at (fun x hx => ?_) (by omega) (by omega) fun d2 g2 => ?_⟩
      · obtain ⟨_, _, q⟩ := l4 x hx
        exact q
      · rw [hlen] at g2
        exact hP m3 d2 s2 g2
  rw [triF_nx, aft_nx, triF_seq, triF_if]
  simp only [tri_t2, tri_gVar, tri_fC]
  refine ⟨_, rfl, ?_⟩
  rw [tri_eqI, tri_asB]
  split
  · rw [triF_ret]
    simp only [tri_fL, tri_aC, tri_gVar, tri_aN]
    exact ⟨_, rfl, _, rfl, _, rfl, twin_at s1 (by omega) (by omega) fun m2 d2 s2 g2 => hP m2 d2 s2 g2⟩
  · rw [triF_nx, aft_nx, triF_ret]
    simp only [tri_fL, tri_aC, tri_gVar, tri_aN]
    exact ⟨_, rfl, _, rfl, _, rfl, free_at s1 (by omega) (by omega) fun m2 d2 s2 g2 => hP m2 d2 s2 g2⟩
end
end Hd
set_option Elab.async false
set_option linter.all false
set_option maxRecDepth 100000
set_option maxHeartbeats 4000000
set_option Elab.async false
set_option linter.all false
set_option maxRecDepth 100000
set_option maxHeartbeats 4000000
namespace Den
open PySem PySem.Spec PyProof.Rows L2
end Den
set_option Elab.async false
set_option linter.all false
set_option maxRecDepth 100000
set_option maxHeartbeats 4000000
set_option Elab.async false
set_option linter.all false
set_option maxRecDepth 100000
set_option maxHeartbeats 4000000
set_option Elab.async false
set_option linter.all false
set_option maxRecDepth 100000
set_option maxHeartbeats 4000000
namespace Den
open PySem PySem.Spec PyProof.Rows L2
end Den
namespace Hd
open PySem PySem.Spec PyProof.Rows L2 Den
def lotsBodyO : SV → M Fl := (gSeq (gNew 1 [] (lDis aN)) (gSeq (gFor (iSeq (f2 dIx (gVar 0) (fC (.int 3)))) (bName 2) (gApp 1 [] (fL dTuple (aC (fNew (compV (eName 3) (iRan 1 (aC (f2 dIx (gVar 0) (fC (.int 2))) aN)) (tT (f2 dIx (gVar 2) (gVar 3))) (gVar 3))) aN)))) (gRet (gVar 1))))
theorem den_lots_eq : den__law_lots = runF 1 4 lotsBodyO := rfl
theorem lotsB_runO {m : SM} {w : Nat} {rows : List (List Bool)} {P : Fl → SM → Prop} (hl : rows.length ≤ 1000) (hr : ∀ r ∈ rows, r.length = w) (hw : w ≤ 1000) (hP : P (.rt (.lst (rows.map (lotR w)))) m) : TriF (lotsBodyO [.va (gridD rows.length w rows), .no, .no, .no]) m P := by
  unfold lotsBodyO gridD
  simp [tri_runF, triF_seq, triF_nx, triF_rt, triF_bk, triF_ct, triF_ret, triF_if, triF_asg, triF_new, triF_setS, triF_setSt, triF_for, aft_nx, aft_rt, aft_rf, fin_rt, fin_rf, triF_retO, fin_nx, tri_fC, tri_gVar, tri_f2, tri_f1, tri_fL, tri_aN, tri_aC, tri_fTup, tri_lDis, tri_fNew, tri_fNot, tri_fAnd, tri_fOr, tri_fIf, tri_fCh, tri_tT, tri_t2, tri_tYes, tri_tNo, tri_tAnd, tri_tOr, tri_asB, tri_truB, tri_truI, tri_truL, tri_truT, tri_truN, tri_add, tri_sub, tri_lt, tri_le, tri_gt, tri_ge, tri_mod, tri_div, tri_pow, tri_mul, tri_int, tri_len, tri_min, tri_max, tri_eqI, tri_ixL, tri_ixT, tri_ixC, tri_ixS, tri_iSeq, tri_itsL, tri_itsT, tri_itsC, tri_iRan, tri_range, tri_iG, tri_enum, tri_comp, tri_tupL, tri_tupT, tri_pure, tri_bind, tri_need, tri_lim, vw, allM, Sl.see, isSto, ixN, atI, SM.all, dLen1]
  refine ⟨rfl, ?_⟩
  refine triF_loop (fun j ρ m' => m' = m ∧ ∃ s2 s3, ρ = [.va (.tup [.str "table", .int rows.length, .int w, .tup (rows.map fun r => .tup (r.map .bl))]), .ow ((rows.take j).map (lotR w)), s2, s3]) _ 0 _ m ⟨rfl, _, _, rfl⟩ (fun j d ρ m' hd hI => ?_) (fun ρ m' hI => ?_)
  · obtain ⟨em, s2, s3, eρ⟩ := hI
    subst eρ em
    have hjr : j < rows.length := by
      by_cases hh : j < rows.length
      · exact hh
      · rw [List.getElem?_eq_none (by simpa using hh)] at hd; cases hd
    have ed : d = .tup (rows[j].map .bl) := by
      rw [List.getElem?_map, List.getElem?_eq_getElem hjr] at hd
      exact (Option.some.inj hd).symm
    subst ed
    refine ⟨_, rfl, ?_⟩
    rw [triF_app]
    refine ⟨_, rfl, ?_⟩
    simp [tri_runF, triF_seq, triF_nx, triF_rt, triF_bk, triF_ct, triF_ret, triF_if, triF_asg, triF_new, triF_setS, triF_setSt, triF_for, aft_nx, aft_rt, aft_rf, fin_rt, fin_rf, triF_retO, fin_nx, tri_fC, tri_gVar, tri_f2, tri_f1, tri_fL, tri_aN, tri_aC, tri_fTup, tri_lDis, tri_fNew, tri_fNot, tri_fAnd, tri_fOr, tri_fIf, tri_fCh, tri_tT, tri_t2, tri_tYes, tri_tNo, tri_tAnd, tri_tOr, tri_asB, tri_truB, tri_truI, tri_truL, tri_truT, tri_truN, tri_add, tri_sub, tri_lt, tri_le, tri_gt, tri_ge, tri_mod, tri_div, tri_pow, tri_mul, tri_int, tri_len, tri_min, tri_max, tri_eqI, tri_ixL, tri_ixT, tri_ixC, tri_ixS, tri_iSeq, tri_itsL, tri_itsT, tri_itsC, tri_iRan, tri_range, tri_iG, tri_enum, tri_comp, tri_tupL, tri_tupT, tri_pure, tri_bind, tri_need, tri_lim, vw, allM, Sl.see, isSto, ixN, atI, SM.all, dLen1]
    refine ⟨by omega, by omega, ?_⟩
    have hw' : rows[j].length = w := hr _ (List.getElem_mem hjr)
    refine tri_compL (fun d => match d with | .int k => if (rows[j]).getD k.toNat false = true then some d else none | _ => none) _ (fun d hd => ?_) ?_
    · obtain ⟨i, hi, e⟩ := List.mem_map.mp hd
      have hi := List.mem_range.mp hi
      subst e
      refine ⟨_, rfl, ?_⟩
      have hrr : i < rows[j].length := by omega
      simp only [tri_tT, tri_f2, tri_gVar]
      refine ⟨_, rfl, _, rfl, ?_⟩
      rw [tri_ixT, Den.atI_nat]
      refine ⟨.bl rows[j][i], by simp [hrr], ?_⟩
      rw [tri_truB]
      have eg : (rows[j]).getD ((i : Int).toNat) false = rows[j][i] := by simp [List.getD, hrr]
      refine ⟨by trivial, ?_, fun hb => ⟨_, rfl, by trivial, ?_⟩⟩
      · simp only [eg]
        cases rows[j][i] <;> simp
      · simp only [eg, hb, if_true]
    · rw [range_filt]
      refine ⟨by omega, by trivial, ?_⟩
      rw [List.take_succ, List.getElem?_map, List.getElem?_eq_getElem hjr]
      simp [lotR]
  · obtain ⟨em, s2, s3, eρ⟩ := hI
    subst eρ em
    simp [tri_runF, triF_seq, triF_nx, triF_rt, triF_bk, triF_ct, triF_ret, triF_if, triF_asg, triF_new, triF_setS, triF_setSt, triF_for, aft_nx, aft_rt, aft_rf, fin_rt, fin_rf, triF_retO, fin_nx, tri_fC, tri_gVar, tri_f2, tri_f1, tri_fL, tri_aN, tri_aC, tri_fTup, tri_lDis, tri_fNew, tri_fNot, tri_fAnd, tri_fOr, tri_fIf, tri_fCh, tri_tT, tri_t2, tri_tYes, tri_tNo, tri_tAnd, tri_tOr, tri_asB, tri_truB, tri_truI, tri_truL, tri_truT, tri_truN, tri_add, tri_sub, tri_lt, tri_le, tri_gt, tri_ge, tri_mod, tri_div, tri_pow, tri_mul, tri_int, tri_len, tri_min, tri_max, tri_eqI, tri_ixL, tri_ixT, tri_ixC, tri_ixS, tri_iSeq, tri_itsL, tri_itsT, tri_itsC, tri_iRan, tri_range, tri_iG, tri_enum, tri_comp, tri_tupL, tri_tupT, tri_pure, tri_bind, tri_need, tri_lim, vw, allM, Sl.see, isSto, ixN, atI, SM.all, dLen1]
    simpa using hP
theorem lots_run {m : SM} {w : Nat} {rows : List (List Bool)} {P : D → SM → Prop} (hl : rows.length ≤ 1000) (hr : ∀ r ∈ rows, r.length = w) (hw : w ≤ 1000) (hP : P (.lst (rows.map (lotR w))) m) : Tri (den__law_lots [gridD rows.length w rows]) m P := by
  rw [den_lots_eq, tri_runF]
  exact ⟨rfl, lotsB_runO hl hr hw hP⟩
end Hd
set_option Elab.async false
set_option linter.all false
set_option maxRecDepth 100000
set_option maxHeartbeats 4000000
namespace Hd
open PySem PySem.Spec PyProof.Rows L2 Den
section
variable {m : SM} {P : D → SM → Prop}
/-- a tuple of ints -/
def Ints (d : D) : Prop := d = .tup ((intsOf d).map .int)
theorem ints_tup (ks : List Int) : Ints (.tup (ks.map .int)) := by unfold Ints; rw [intsOf_tup]
theorem ints_map {d : D} (h : Ints d) : ∃ ks : List Int, d = .tup (ks.map .int) := ⟨_, h⟩
theorem world_at (hm : SI m) (hP : ∀ m' (w : Nat) (a : List (List Bool)), SI m' → Rect w a → P (gridD a.length w a) m') : Tri (den__law_world [.sto, .int 6, .int 6]) m P := by
  have any : ∀ (m' : SM) (d : D) (u v : Nat), SI m' → u ≤ 6 → v ≤ 6 → IsGrid u v d → P d m' := fun m' d u v s hu hv g => by
    obtain ⟨b, l, B, e⟩ := grid_ex g hu hv
    subst e l
    exact hP m' v b s B
  have ix : ∀ {xs : List D} {i : Nat} {d : D} {m : SM} {P : D → SM → Prop}, xs[i]? = some d → P d m → Tri (dIx (.lst xs) (.int (i : Nat))) m P := fun {xs i d m P} h q => by
    rw [tri_ixL, Den.atI_nat]
    exact ⟨_, h, q⟩
  unfold den__law_world
  rw [tri_runF]
  refine ⟨rfl, ?_⟩
  rw [triF_seq, triF_asg]
  simp only [tri_fL, tri_aC, tri_gVar, tri_aN]
  refine ⟨_, rfl, _, rfl, _, rfl, sizes_at hm (by omega) (by omega) fun m1 x y s1 hx hy => ⟨rfl, ?_⟩⟩
  obtain ⟨h, rfl⟩ := Int.eq_ofNat_of_zero_le hx.1
  obtain ⟨w, rfl⟩ := Int.eq_ofNat_of_zero_le hy.1
  rw [aft_nx, triF_seq, triF_asg]
  simp only [tri_f2, tri_gVar, tri_fC]
  refine ⟨_, rfl, ix (i := 1) rfl ⟨rfl, ?_⟩⟩
  rw [aft_nx, triF_seq, triF_asg]
  simp only [tri_fL, tri_aC, tri_gVar, tri_aN, tri_fC]
  refine ⟨_, rfl, take_at s1 (by omega) fun m2 z s2 z0 z1 => ⟨rfl, ?_⟩⟩
  rw [aft_nx]
  show TriF (gSeq _ _ [.va .sto, .va (.int 6), .va (.int 6), .va (.lst [.int (h : Nat), .int (w : Nat)]), .va (.int (w : Nat)), .va (.int z), .no, .no, .no, .no, .no, .no]) m2 _
  rw [triF_seq, triF_if]
  simp only [tri_t2, tri_gVar, tri_fC]
  refine ⟨_, rfl, ?_⟩
  rw [tri_eqI, tri_asB]
  split
  · rw [triF_ret]
    simp only [tri_fL, tri_aC, tri_f2, tri_gVar, tri_aN, tri_fC]
    refine ⟨_, rfl, _, rfl, _, rfl, ix (i := 0) rfl ?_⟩
    refine twin_at s2 (by omega) (by omega) fun m3 d3 s3 g3 => ?_
    exact turn_at g3 (by omega) (by omega) fun d g => any m3 d _ _ s3 (by omega) (by omega) g
  rw [triF_nx, aft_nx, triF_seq, triF_if]
  simp only [tri_t2, tri_gVar, tri_fC]
  refine ⟨_, rfl, ?_⟩
  rw [tri_gt, tri_asB]
  split
  · rw [triF_ret]
    simp only [tri_fL, tri_aC, tri_f2, tri_gVar, tri_aN, tri_fC]
    refine ⟨_, rfl, _, rfl, ix (i := 0) rfl ⟨_, rfl, ?_⟩⟩
    exact some_grid_at s2 (by omega) (by omega) fun m3 d s3 g => any m3 d _ _ s3 (by omega) (by omega) g
  rw [triF_nx, aft_nx, triF_seq, triF_new]
  simp only [tri_lDis, tri_aN]
  refine ⟨by simp, rfl, ?_⟩
  rw [aft_nx, triF_seq, triF_asg]
  simp only [tri_fL, tri_aC, tri_gVar, tri_aN]
  refine ⟨_, rfl, _, rfl, placing_at s2 (by omega) fun m3 p s3 hp => ⟨rfl, ?_⟩⟩
  rw [aft_nx]
  show TriF (gSeq _ _ [.va .sto, .va (.int 6), .va (.int 6), .va (.lst [.int (h : Nat), .int (w : Nat)]), .va (.int (w : Nat)), .va (.int z), .ow [], .va p, .no, .no, .no, .no]) m3 _
  rw [triF_seq, triF_for]
  simp only [tri_iRan, tri_aC, tri_f2, tri_gVar, tri_fC, tri_aN]
  refine ⟨_, rfl, ix (i := 0) rfl ⟨rfl, ?_⟩⟩
  rw [tri_range]
  refine ⟨by omega, ?_⟩
  have el : ((List.range (h : Int).toNat).map fun i : Nat => D.int (i : Int)).length = h := by simp
  refine triF_loop (fun j ρ m' => SI m' ∧ ∃ os s8 s9 s10, os.length = j ∧ (∀ d ∈ os, Ints d) ∧ ρ = [.va .sto, .va (.int 6), .va (.int 6), .va (.lst [.int (h : Nat), .int (w : Nat)]), .va (.int (w : Nat)), .va (.int z), .ow os, .va p, s8, s9, s10, .no]) _ 0 _ m3 ⟨s3, [], .no, .no, .no, rfl, by simp, rfl⟩ (fun j d ρ m' hd hI => ?_) (fun ρ m' hI => ?_)
  · obtain ⟨s', os, s8, s9, s10, lo, ho, eρ⟩ := hI
    subst eρ
    refine ⟨_, rfl, ?_⟩
    show TriF (gSeq _ _ [.va .sto, .va (.int 6), .va (.int 6), .va (.lst [.int (h : Nat), .int (w : Nat)]), .va (.int (w : Nat)), .va (.int z), .ow os, .va p, .va d, s9, s10, .no]) m' _
    rw [triF_seq, triF_asg]
    simp only [tri_fL, tri_aC, tri_fNew, tri_lDis, tri_fTup, tri_gVar, tri_aN]
    refine ⟨_, rfl, _, rfl, take_at s' (by omega) fun m4 y s4 y0 y1 => ⟨by simp, _, rfl, _, rfl, take_at s4 (by omega) fun m5 q s5 q0 q1 => ⟨by simp, by simp, ?_⟩⟩⟩
    refine join_run (fun d hd => ?_) (by simp) ⟨rfl, ?_⟩
    · simp at hd
      rcases hd with e | e <;> subst e
      · exact ints_tup [y]
      · exact ints_tup [q]
    generalize ej : (D.tup ((jn 6 [D.tup [.int y], D.tup [.int q]]).map fun k : Nat => D.int (k : Int))) = jd
    have hj : Ints jd := by
      rw [← ej]
      have : ((jn 6 [D.tup [.int y], D.tup [.int q]]).map fun k : Nat => D.int (k : Int)) = ((jn 6 [D.tup [.int y], D.tup [.int q]]).map fun k : Nat => (k : Int)).map .int := by rw [List.map_map]; rfl
      rw [this]
      exact ints_tup _
    rw [aft_nx]
    show TriF (gSeq _ _ [.va .sto, .va (.int 6), .va (.int 6), .va (.lst [.int (h : Nat), .int (w : Nat)]), .va (.int (w : Nat)), .va (.int z), .ow os, .va p, .va d, .va jd, s10, .no]) m5 _
    have app : ∀ (lot : D) (s10 : Sl) (m6 : SM) (Q : Fl → SM → Prop), Ints lot → (∀ os' : List D, os'.length = 0 + j + 1 → (∀ d ∈ os', Ints d) → Q (.nx [.va .sto, .va (.int 6), .va (.int 6), .va (.lst [.int (h : Nat), .int (w : Nat)]), .va (.int (w : Nat)), .va (.int z), .ow os', .va p, .va d, .va lot, s10, .no]) m6) → TriF (gApp 6 [] (gVar 9) [.va .sto, .va (.int 6), .va (.int 6), .va (.lst [.int (h : Nat), .int (w : Nat)]), .va (.int (w : Nat)), .va (.int z), .ow os, .va p, .va d, .va lot, s10, .no]) m6 Q := fun lot s10 m6 Q hl hQ => by
      rw [triF_app]
      refine ⟨_, rfl, ?_⟩
      rw [tri_gVar]
      have hj6 : j < 7 := by
        obtain ⟨hh, _⟩ := List.getElem?_eq_some_iff.mp hd
        omega
      refine ⟨_, rfl, by rfl, by omega, hQ (os ++ [lot]) (by simp [lo]) fun x hx => ?_⟩
      rcases List.mem_append.mp hx with e | e
      · exact ho x e
      · simp at e; rw [e]; exact hl
    rw [triF_seq, triF_if]
    simp only [tri_t2, tri_gVar, tri_fC]
    refine ⟨_, rfl, ?_⟩
    rw [tri_eqI, tri_asB]
    split
    · rw [triF_seq, triF_asg]
      simp only [tri_fL, tri_aC, tri_f2, tri_gVar, tri_aN, tri_fC]
      refine ⟨_, rfl, _, rfl, ?_⟩
      rw [tri_add]
      refine take_at s5 (by omega) fun m6 t s6 t0 t1 => ⟨rfl, ?_⟩
      rw [aft_nx]
      show TriF (gAsg 9 _ _ [.va .sto, .va (.int 6), .va (.int 6), .va (.lst [.int (h : Nat), .int (w : Nat)]), .va (.int (w : Nat)), .va (.int z), .ow os, .va p, .va d, .va jd, .va (.int t), .no]) m6 _
      rw [triF_asg]
      simp only [tri_fL, tri_aC, tri_fNew, tri_comp, tri_iRan, tri_gVar, tri_aN]
      refine ⟨_, rfl, rfl, ?_⟩
      rw [tri_range]
      refine ⟨by omega, by simp; omega, ?_⟩
      refine tri_compE (fun m7 => m7 = m6) (fun d y => ∃ k : Int, y = .int k ∧ True) false _ rfl (fun d' hd' m7 em => ?_) fun ds m7 em _ _ l5 => ?_
      · subst em
        obtain ⟨k, hk, e⟩ := List.mem_map.mp hd'
        have hk := List.mem_range.mp hk
        rw [Int.toNat_natCast] at hk
        subst e
        refine ⟨_, rfl, ?_⟩
        simp only [tri_t2, tri_f2, tri_gVar]
        refine ⟨_, rfl, _, rfl, ?_⟩
        obtain ⟨ks, e2, l2, _⟩ := hp.ex
        rw [e2, tri_ixT, Den.atI_nat]
        refine ⟨.int ks[k], by simp [show k < ks.length by omega], _, rfl, ?_⟩
        rw [tri_lt, tri_asB]
        split
        · exact ⟨_, rfl, ⟨_, rfl, trivial⟩, rfl⟩
        · first | exact ⟨rfl, rfl⟩ | exact ⟨trivial, rfl⟩
      · subst em
        rw [tri_tupL]
        refine ⟨rfl, ?_⟩
        rw [aft_nx]
        obtain ⟨ks, ek, _⟩ := ints_of (p := fun _ => True) (ys := ds) fun y hy => by
          obtain ⟨_, _, q⟩ := l5 y hy
          exact q
        refine app (.tup ds) (.va (.int t)) m7 _ ?_ fun os' l' h' => ⟨s6, os', _, _, _, l', h', rfl⟩
        rw [ek]
        exact ints_tup ks
    · rw [triF_nx, aft_nx]
      exact app jd s10 m5 _ hj fun os' l' h' => ⟨s5, os', _, _, _, l', h', rfl⟩
  · obtain ⟨s', os, s8, s9, s10, lo, ho, eρ⟩ := hI
    subst eρ
    rw [aft_nx, triF_ret]
    simp only [tri_fL, tri_aC, tri_gVar, tri_aN]
    have lo : os.length = h := by rw [lo, el]; omega
    refine ⟨_, rfl, _, rfl, of_run ho (by omega) (by omega) ?_⟩
    exact any m' _ _ _ s' (by omega) (by omega) (grid_of os w)
end
end Hd
set_option Elab.async false
set_option linter.all false
set_option maxRecDepth 100000
set_option maxHeartbeats 4000000
namespace Hd
open PySem PySem.Spec PyProof.Rows L2 Den
/-- data of at most n floors -/
def datB : Nat → D → Bool
  | _, .non => true
  | _, .bl _ => true
  | _, .int _ => true
  | _, .str s => PyData.strOk s
  | n + 1, .tup xs => decide (xs.length ≤ 3000) && xs.all (datB n)
  | n + 1, .lst xs => decide (xs.length ≤ 3000) && xs.all (datB n)
  | _, _ => false
theorem datB_tup {n : Nat} {xs : List D} : datB (n + 1) (.tup xs) = true ↔ xs.length ≤ 3000 ∧ ∀ x ∈ xs, datB n x = true := by
  rw [datB, Bool.and_eq_true, decide_eq_true_iff, List.all_eq_true]
theorem datB_lst {n : Nat} {xs : List D} : datB (n + 1) (.lst xs) = true ↔ xs.length ≤ 3000 ∧ ∀ x ∈ xs, datB n x = true := by
  rw [datB, Bool.and_eq_true, decide_eq_true_iff, List.all_eq_true]
theorem datB_up : ∀ {n : Nat} {d : D}, datB n d = true → datB (n + 1) d = true
  | _, .non, _ => rfl
  | _, .bl _, _ => rfl
  | _, .int _, _ => rfl
  | 0, .str _, h => h
  | n + 1, .str _, h => h
  | n + 1, .tup xs, h => by
    obtain ⟨h1, h2⟩ := datB_tup.mp h
    exact datB_tup.mpr ⟨h1, fun x hx => datB_up (h2 x hx)⟩
  | n + 1, .lst xs, h => by
    obtain ⟨h1, h2⟩ := datB_lst.mp h
    exact datB_lst.mpr ⟨h1, fun x hx => datB_up (h2 x hx)⟩
  | 0, .tup _, h => by simp [datB] at h
  | 0, .lst _, h => by simp [datB] at h
  | 0, .obj _ _, h => by simp [datB] at h
  | n + 1, .obj _ _, h => by simp [datB] at h
  | 0, .scr _, h => by simp [datB] at h
  | n + 1, .scr _, h => by simp [datB] at h
  | 0, .sto, h => by simp [datB] at h
  | n + 1, .sto, h => by simp [datB] at h
  | 0, .rng _ _, h => by simp [datB] at h
  | n + 1, .rng _ _, h => by simp [datB] at h
  | 0, .exc _ _, h => by simp [datB] at h
  | n + 1, .exc _ _, h => by simp [datB] at h
theorem bare_at : ∀ (n k : Nat) (d : D) {m : SM} {P : D → SM → Prop}, datB n d = true → n < k → P d m → Tri (den__law_bare k [d]) m P
  | n, 0, d, m, P, h, hk, hP => by omega
  | n, k + 1, .non, m, P, h, hk, hP => by
    unfold den__law_bare
    simp [tri_runF, triF_seq, triF_nx, triF_rt, triF_bk, triF_ct, triF_ret, triF_if, triF_asg, triF_for, aft_nx, aft_rt, aft_rf, fin_rt, fin_rf, triF_retO, fin_nx, tri_fC, tri_gVar, tri_f2, tri_f1, tri_fL, tri_aN, tri_aC, tri_fTup, tri_lDis, tri_fNew, tri_fNot, tri_fAnd, tri_fOr, tri_fIf, tri_fCh, tri_tT, tri_t2, tri_tYes, tri_tNo, tri_tAnd, tri_tOr, tri_asB, tri_truB, tri_truI, tri_truL, tri_truT, tri_truN, tri_add, tri_sub, tri_lt, tri_le, tri_gt, tri_ge, tri_int, tri_len, tri_eqI, tri_neI, tri_iSeq, tri_itsL, tri_itsT, tri_iRan, tri_range, tri_iG, tri_enum, tri_comp, tri_tupL, tri_tupT, tri_pure, tri_bind, tri_need, tri_lim, tri_noErr, tri_gIsi, tri_gProp, tri_gInv, tri_gFld, tri_callK, tri_lG, tri_list_tup, tri_isBF, tri_isIN, tri_isBN, vw, allM, Sl.see, dLen1, D.plainOr, isCl, D.tyn, Den.isObj, dFld, pick]
    exact hP
  | n, k + 1, .bl _, m, P, h, hk, hP => by
    unfold den__law_bare
    simp [tri_runF, triF_seq, triF_nx, triF_rt, triF_bk, triF_ct, triF_ret, triF_if, triF_asg, triF_for, aft_nx, aft_rt, aft_rf, fin_rt, fin_rf, triF_retO, fin_nx, tri_fC, tri_gVar, tri_f2, tri_f1, tri_fL, tri_aN, tri_aC, tri_fTup, tri_lDis, tri_fNew, tri_fNot, tri_fAnd, tri_fOr, tri_fIf, tri_fCh, tri_tT, tri_t2, tri_tYes, tri_tNo, tri_tAnd, tri_tOr, tri_asB, tri_truB, tri_truI, tri_truL, tri_truT, tri_truN, tri_add, tri_sub, tri_lt, tri_le, tri_gt, tri_ge, tri_int, tri_len, tri_eqI, tri_neI, tri_iSeq, tri_itsL, tri_itsT, tri_iRan, tri_range, tri_iG, tri_enum, tri_comp, tri_tupL, tri_tupT, tri_pure, tri_bind, tri_need, tri_lim, tri_noErr, tri_gIsi, tri_gProp, tri_gInv, tri_gFld, tri_callK, tri_lG, tri_list_tup, tri_isBF, tri_isIN, tri_isBN, vw, allM, Sl.see, dLen1, D.plainOr, isCl, D.tyn, Den.isObj, dFld, pick]
    exact hP
  | n, k + 1, .int _, m, P, h, hk, hP => by
    unfold den__law_bare
    simp [tri_runF, triF_seq, triF_nx, triF_rt, triF_bk, triF_ct, triF_ret, triF_if, triF_asg, triF_for, aft_nx, aft_rt, aft_rf, fin_rt, fin_rf, triF_retO, fin_nx, tri_fC, tri_gVar, tri_f2, tri_f1, tri_fL, tri_aN, tri_aC, tri_fTup, tri_lDis, tri_fNew, tri_fNot, tri_fAnd, tri_fOr, tri_fIf, tri_fCh, tri_tT, tri_t2, tri_tYes, tri_tNo, tri_tAnd, tri_tOr, tri_asB, tri_truB, tri_truI, tri_truL, tri_truT, tri_truN, tri_add, tri_sub, tri_lt, tri_le, tri_gt, tri_ge, tri_int, tri_len, tri_eqI, tri_neI, tri_iSeq, tri_itsL, tri_itsT, tri_iRan, tri_range, tri_iG, tri_enum, tri_comp, tri_tupL, tri_tupT, tri_pure, tri_bind, tri_need, tri_lim, tri_noErr, tri_gIsi, tri_gProp, tri_gInv, tri_gFld, tri_callK, tri_lG, tri_list_tup, tri_isBF, tri_isIN, tri_isBN, vw, allM, Sl.see, dLen1, D.plainOr, isCl, D.tyn, Den.isObj, dFld, pick]
    exact hP
  | n, k + 1, .str _, m, P, h, hk, hP => by
    unfold den__law_bare
    simp [tri_runF, triF_seq, triF_nx, triF_rt, triF_bk, triF_ct, triF_ret, triF_if, triF_asg, triF_for, aft_nx, aft_rt, aft_rf, fin_rt, fin_rf, triF_retO, fin_nx, tri_fC, tri_gVar, tri_f2, tri_f1, tri_fL, tri_aN, tri_aC, tri_fTup, tri_lDis, tri_fNew, tri_fNot, tri_fAnd, tri_fOr, tri_fIf, tri_fCh, tri_tT, tri_t2, tri_tYes, tri_tNo, tri_tAnd, tri_tOr, tri_asB, tri_truB, tri_truI, tri_truL, tri_truT, tri_truN, tri_add, tri_sub, tri_lt, tri_le, tri_gt, tri_ge, tri_int, tri_len, tri_eqI, tri_neI, tri_iSeq, tri_itsL, tri_itsT, tri_iRan, tri_range, tri_iG, tri_enum, tri_comp, tri_tupL, tri_tupT, tri_pure, tri_bind, tri_need, tri_lim, tri_noErr, tri_gIsi, tri_gProp, tri_gInv, tri_gFld, tri_callK, tri_lG, tri_list_tup, tri_isBF, tri_isIN, tri_isBN, vw, allM, Sl.see, dLen1, D.plainOr, isCl, D.tyn, Den.isObj, dFld, pick]
    exact hP
  | n + 1, k + 1, .tup xs, m, P, h, hk, hP => by
    obtain ⟨h1, h2⟩ := datB_tup.mp h
    unfold den__law_bare
    simp [tri_runF, triF_seq, triF_nx, triF_rt, triF_bk, triF_ct, triF_ret, triF_if, triF_asg, triF_for, aft_nx, aft_rt, aft_rf, fin_rt, fin_rf, triF_retO, fin_nx, tri_fC, tri_gVar, tri_f2, tri_f1, tri_fL, tri_aN, tri_aC, tri_fTup, tri_lDis, tri_fNew, tri_fNot, tri_fAnd, tri_fOr, tri_fIf, tri_fCh, tri_tT, tri_t2, tri_tYes, tri_tNo, tri_tAnd, tri_tOr, tri_asB, tri_truB, tri_truI, tri_truL, tri_truT, tri_truN, tri_add, tri_sub, tri_lt, tri_le, tri_gt, tri_ge, tri_int, tri_len, tri_eqI, tri_neI, tri_iSeq, tri_itsL, tri_itsT, tri_iRan, tri_range, tri_iG, tri_enum, tri_comp, tri_tupL, tri_tupT, tri_pure, tri_bind, tri_need, tri_lim, tri_noErr, tri_gIsi, tri_gProp, tri_gInv, tri_gFld, tri_callK, tri_lG, tri_list_tup, tri_isBF, tri_isIN, tri_isBN, vw, allM, Sl.see, dLen1, D.plainOr, isCl, D.tyn, Den.isObj, dFld, pick]
    refine ⟨by omega, tri_compM (fun x => x) _ (fun d hd => ⟨_, rfl, ?_⟩) ?_⟩
    · simp [tri_runF, triF_seq, triF_nx, triF_rt, triF_bk, triF_ct, triF_ret, triF_if, triF_asg, triF_for, aft_nx, aft_rt, aft_rf, fin_rt, fin_rf, triF_retO, fin_nx, tri_fC, tri_gVar, tri_f2, tri_f1, tri_fL, tri_aN, tri_aC, tri_fTup, tri_lDis, tri_fNew, tri_fNot, tri_fAnd, tri_fOr, tri_fIf, tri_fCh, tri_tT, tri_t2, tri_tYes, tri_tNo, tri_tAnd, tri_tOr, tri_asB, tri_truB, tri_truI, tri_truL, tri_truT, tri_truN, tri_add, tri_sub, tri_lt, tri_le, tri_gt, tri_ge, tri_int, tri_len, tri_eqI, tri_neI, tri_iSeq, tri_itsL, tri_itsT, tri_iRan, tri_range, tri_iG, tri_enum, tri_comp, tri_tupL, tri_tupT, tri_pure, tri_bind, tri_need, tri_lim, tri_noErr, tri_gIsi, tri_gProp, tri_gInv, tri_gFld, tri_callK, tri_lG, tri_list_tup, tri_isBF, tri_isIN, tri_isBN, vw, allM, Sl.see, dLen1, D.plainOr, isCl, D.tyn, Den.isObj, dFld, pick]
      exact bare_at n k d (h2 d hd) (by omega) ⟨rfl, rfl⟩
    · simpa using hP
  | n + 1, k + 1, .lst xs, m, P, h, hk, hP => by
    obtain ⟨h1, h2⟩ := datB_lst.mp h
    unfold den__law_bare
    simp [tri_runF, triF_seq, triF_nx, triF_rt, triF_bk, triF_ct, triF_ret, triF_if, triF_asg, triF_for, aft_nx, aft_rt, aft_rf, fin_rt, fin_rf, triF_retO, fin_nx, tri_fC, tri_gVar, tri_f2, tri_f1, tri_fL, tri_aN, tri_aC, tri_fTup, tri_lDis, tri_fNew, tri_fNot, tri_fAnd, tri_fOr, tri_fIf, tri_fCh, tri_tT, tri_t2, tri_tYes, tri_tNo, tri_tAnd, tri_tOr, tri_asB, tri_truB, tri_truI, tri_truL, tri_truT, tri_truN, tri_add, tri_sub, tri_lt, tri_le, tri_gt, tri_ge, tri_int, tri_len, tri_eqI, tri_neI, tri_iSeq, tri_itsL, tri_itsT, tri_iRan, tri_range, tri_iG, tri_enum, tri_comp, tri_tupL, tri_tupT, tri_pure, tri_bind, tri_need, tri_lim, tri_noErr, tri_gIsi, tri_gProp, tri_gInv, tri_gFld, tri_callK, tri_lG, tri_list_tup, tri_isBF, tri_isIN, tri_isBN, vw, allM, Sl.see, dLen1, D.plainOr, isCl, D.tyn, Den.isObj, dFld, pick]
    refine ⟨by omega, tri_compM (fun x => x) _ (fun d hd => ⟨_, rfl, ?_⟩) ?_⟩
    · simp [tri_runF, triF_seq, triF_nx, triF_rt, triF_bk, triF_ct, triF_ret, triF_if, triF_asg, triF_for, aft_nx, aft_rt, aft_rf, fin_rt, fin_rf, triF_retO, fin_nx, tri_fC, tri_gVar, tri_f2, tri_f1, tri_fL, tri_aN, tri_aC, tri_fTup, tri_lDis, tri_fNew, tri_fNot, tri_fAnd, tri_fOr, tri_fIf, tri_fCh, tri_tT, tri_t2, tri_tYes, tri_tNo, tri_tAnd, tri_tOr, tri_asB, tri_truB, tri_truI, tri_truL, tri_truT, tri_truN, tri_add, tri_sub, tri_lt, tri_le, tri_gt, tri_ge, tri_int, tri_len, tri_eqI, tri_neI, tri_iSeq, tri_itsL, tri_itsT, tri_iRan, tri_range, tri_iG, tri_enum, tri_comp, tri_tupL, tri_tupT, tri_pure, tri_bind, tri_need, tri_lim, tri_noErr, tri_gIsi, tri_gProp, tri_gInv, tri_gFld, tri_callK, tri_lG, tri_list_tup, tri_isBF, tri_isIN, tri_isBN, vw, allM, Sl.see, dLen1, D.plainOr, isCl, D.tyn, Den.isObj, dFld, pick]
      exact bare_at n k d (h2 d hd) (by omega) ⟨rfl, rfl⟩
    · simpa using hP
  | 0, k + 1, .tup _, m, P, h, hk, hP => by simp [datB] at h
  | 0, k + 1, .lst _, m, P, h, hk, hP => by simp [datB] at h
  | 0, k + 1, .obj _ _, m, P, h, hk, hP => by simp [datB] at h
  | n + 1, k + 1, .obj _ _, m, P, h, hk, hP => by simp [datB] at h
  | 0, k + 1, .scr _, m, P, h, hk, hP => by simp [datB] at h
  | n + 1, k + 1, .scr _, m, P, h, hk, hP => by simp [datB] at h
  | 0, k + 1, .sto, m, P, h, hk, hP => by simp [datB] at h
  | n + 1, k + 1, .sto, m, P, h, hk, hP => by simp [datB] at h
  | 0, k + 1, .rng _ _, m, P, h, hk, hP => by simp [datB] at h
  | n + 1, k + 1, .rng _ _, m, P, h, hk, hP => by simp [datB] at h
  | 0, k + 1, .exc _ _, m, P, h, hk, hP => by simp [datB] at h
  | n + 1, k + 1, .exc _ _, m, P, h, hk, hP => by simp [datB] at h
end Hd
set_option Elab.async false
set_option linter.all false
set_option maxRecDepth 100000
set_option maxHeartbeats 4000000
namespace Hd
open PySem PySem.Spec PyProof.Rows L2 Den
theorem pys_all {n : Nat} : ∀ {xs : List D}, (∀ x ∈ xs, ∃ e, x.py = some e ∧ e.canLay0 = true ∧ e.depth ≤ n) → ∃ es, D.pys xs = some es ∧ PyData.canLayAll0 es = true ∧ PyData.depthAll es ≤ n
  | [], _ => ⟨[], by simp [D.pys], by simp [PyData.canLayAll0], by simp [PyData.depthAll]⟩
  | x :: xs, h => by
    obtain ⟨e, h1, h2, h3⟩ := h x (by simp)
    obtain ⟨es, k1, k2, k3⟩ := pys_all (xs := xs) fun y hy => h y (by simp [hy])
    refine ⟨e :: es, by rw [D.pys, h1, k1], by simp [PyData.canLayAll0, h2, k2], ?_⟩
    rw [PyData.depthAll]
    omega
theorem dat_py : ∀ (n : Nat) (d : D), datB n d = true → ∃ e, d.py = some e ∧ e.canLay0 = true ∧ e.depth ≤ n
  | n, .non, h => ⟨.none, by rw [D.py], by simp [PyData.canLay0], by simp [PyData.depth]⟩
  | n, .bl b, h => ⟨.bool b, by rw [D.py], by simp [PyData.canLay0], by simp [PyData.depth]⟩
  | n, .int i, h => ⟨.int i, by rw [D.py], by simp [PyData.canLay0], by simp [PyData.depth]⟩
  | 0, .str s, h => ⟨.str s, by rw [D.py], by simpa [PyData.canLay0, datB] using h, by simp [PyData.depth]⟩
  | n + 1, .str s, h => ⟨.str s, by rw [D.py], by simpa [PyData.canLay0, datB] using h, by simp [PyData.depth]⟩
  | n + 1, .tup xs, h => by
    obtain ⟨h1, h2⟩ := datB_tup.mp h
    obtain ⟨es, k1, k2, k3⟩ := pys_all fun x hx => dat_py n x (h2 x hx)
    exact ⟨.tuple es, by rw [D.py, k1]; rfl, by simpa [PyData.canLay0] using k2, by rw [PyData.depth]; omega⟩
  | n + 1, .lst xs, h => by
    obtain ⟨h1, h2⟩ := datB_lst.mp h
    obtain ⟨es, k1, k2, k3⟩ := pys_all fun x hx => dat_py n x (h2 x hx)
    exact ⟨.list es, by rw [D.py, k1]; rfl, by simpa [PyData.canLay0] using k2, by rw [PyData.depth]; omega⟩
  | 0, .tup _, h => by simp [datB] at h
  | 0, .lst _, h => by simp [datB] at h
  | 0, .obj _ _, h => by simp [datB] at h
  | n + 1, .obj _ _, h => by simp [datB] at h
  | 0, .scr _, h => by simp [datB] at h
  | n + 1, .scr _, h => by simp [datB] at h
  | 0, .sto, h => by simp [datB] at h
  | n + 1, .sto, h => by simp [datB] at h
  | 0, .rng _ _, h => by simp [datB] at h
  | n + 1, .rng _ _, h => by simp [datB] at h
  | 0, .exc _ _, h => by simp [datB] at h
  | n + 1, .exc _ _, h => by simp [datB] at h
section
variable {m : SM} {P : D → SM → Prop}
theorem eqB_refl {n : Nat} {d : D} (h : datB n d = true) (hn : n ≤ 60) : dEqB d d = some true := by
  obtain ⟨e, h1, h2, h3⟩ := dat_py n d h
  have sh : SeqAt.shaped e = true := by
    unfold SeqAt.shaped
    rw [h2, Bool.true_and]
    exact decide_eq_true (by omega)
  unfold dEqB
  rw [h1]
  simp only [sh, Bool.and_self, if_true, SeqAt.eqv_refl e h2]
theorem ne_refl {n : Nat} {d : D} (h : datB n d = true) (hn : n ≤ 60) (hP : P (.bl false) m) : Tri (dNe d d) m P := by
  unfold dNe
  rw [eqB_refl h hn, tri_pure]
  exact hP
def ascB (w : Int) : Int → List D → Bool
  | _, [] => true
  | l, .int k :: r => decide (l ≤ k) && (decide (k < w) && ascB w (k + 1) r)
  | _, _ :: _ => false
def lotB (w : Int) : D → Bool
  | .tup xs => ascB w 0 xs
  | _ => false
theorem dat_cases {n : Nat} {d : D} (h : datB n d = true) : d = .non ∨ (∃ b, d = .bl b) ∨ (∃ i, d = .int i) ∨ (∃ s, d = .str s) ∨ (∃ xs, d = .tup xs) ∨ ∃ xs, d = .lst xs := by
  cases d with
  | non => exact .inl rfl
  | bl b => exact .inr (.inl ⟨_, rfl⟩)
  | int i => exact .inr (.inr (.inl ⟨_, rfl⟩))
  | str s => exact .inr (.inr (.inr (.inl ⟨_, rfl⟩)))
  | tup xs => exact .inr (.inr (.inr (.inr (.inl ⟨_, rfl⟩))))
  | lst xs => exact .inr (.inr (.inr (.inr (.inr ⟨_, rfl⟩))))
  | _ => cases n <;> simp [datB] at h
def isInt : D → Bool
  | .int _ => true
  | _ => false
/-- the law's reading of it -/
theorem integer_at {n : Nat} {d : D} (h : datB n d = true) (hP : P (.bl (isInt d)) m) : Tri (den__law_is_integer [d]) m P := by
  unfold den__law_is_integer
  rcases dat_cases h with e | ⟨_, e⟩ | ⟨_, e⟩ | ⟨_, e⟩ | ⟨_, e⟩ | ⟨_, e⟩ <;> subst e <;> simp [tri_runF, triF_seq, triF_nx, triF_rt, triF_bk, triF_ct, triF_ret, triF_if, triF_asg, triF_for, aft_nx, aft_rt, aft_rf, fin_rt, fin_rf, triF_retO, fin_nx, tri_fC, tri_gVar, tri_f2, tri_f1, tri_fL, tri_aN, tri_aC, tri_fTup, tri_lDis, tri_fNew, tri_fNot, tri_fAnd, tri_fOr, tri_fIf, tri_fCh, tri_tT, tri_t2, tri_tYes, tri_tNo, tri_tAnd, tri_tOr, tri_asB, tri_truB, tri_truI, tri_truL, tri_truT, tri_truN, tri_add, tri_sub, tri_lt, tri_le, tri_gt, tri_ge, tri_int, tri_len, tri_eqI, tri_neI, tri_iSeq, tri_itsL, tri_itsT, tri_iRan, tri_range, tri_iG, tri_enum, tri_comp, tri_tupL, tri_tupT, tri_pure, tri_bind, tri_need, tri_lim, tri_noErr, tri_gIsi, tri_gProp, tri_gInv, tri_gFld, tri_callK, tri_lG, tri_list_tup, tri_isBF, tri_isIN, tri_isBN, vw, allM, Sl.see, dLen1, D.plainOr, isCl, D.tyn, Den.isObj, dFld, pick] <;> exact hP
theorem law_lot_at {n : Nat} {d : D} {w : Int} (h : datB n d = true) (hP : P (.bl (lotB w d)) m) : Tri (den__law_is_lot [d, .int w]) m P := by
  unfold den__law_is_lot
  rcases dat_cases h with e | ⟨_, e⟩ | ⟨_, e⟩ | ⟨_, e⟩ | ⟨xs, e⟩ | ⟨_, e⟩
  · subst e; simp [tri_runF, triF_seq, triF_nx, triF_rt, triF_bk, triF_ct, triF_ret, triF_if, triF_asg, triF_for, aft_nx, aft_rt, aft_rf, fin_rt, fin_rf, triF_retO, fin_nx, tri_fC, tri_gVar, tri_f2, tri_f1, tri_fL, tri_aN, tri_aC, tri_fTup, tri_lDis, tri_fNew, tri_fNot, tri_fAnd, tri_fOr, tri_fIf, tri_fCh, tri_tT, tri_t2, tri_tYes, tri_tNo, tri_tAnd, tri_tOr, tri_asB, tri_truB, tri_truI, tri_truL, tri_truT, tri_truN, tri_add, tri_sub, tri_lt, tri_le, tri_gt, tri_ge, tri_int, tri_len, tri_eqI, tri_neI, tri_iSeq, tri_itsL, tri_itsT, tri_iRan, tri_range, tri_iG, tri_enum, tri_comp, tri_tupL, tri_tupT, tri_pure, tri_bind, tri_need, tri_lim, tri_noErr, tri_gIsi, tri_gProp, tri_gInv, tri_gFld, tri_callK, tri_lG, tri_list_tup, tri_isBF, tri_isIN, tri_isBN, vw, allM, Sl.see, dLen1, D.plainOr, isCl, D.tyn, Den.isObj, dFld, pick]; exact hP
  · subst e; simp [tri_runF, triF_seq, triF_nx, triF_rt, triF_bk, triF_ct, triF_ret, triF_if, triF_asg, triF_for, aft_nx, aft_rt, aft_rf, fin_rt, fin_rf, triF_retO, fin_nx, tri_fC, tri_gVar, tri_f2, tri_f1, tri_fL, tri_aN, tri_aC, tri_fTup, tri_lDis, tri_fNew, tri_fNot, tri_fAnd, tri_fOr, tri_fIf, tri_fCh, tri_tT, tri_t2, tri_tYes, tri_tNo, tri_tAnd, tri_tOr, tri_asB, tri_truB, tri_truI, tri_truL, tri_truT, tri_truN, tri_add, tri_sub, tri_lt, tri_le, tri_gt, tri_ge, tri_int, tri_len, tri_eqI, tri_neI, tri_iSeq, tri_itsL, tri_itsT, tri_iRan, tri_range, tri_iG, tri_enum, tri_comp, tri_tupL, tri_tupT, tri_pure, tri_bind, tri_need, tri_lim, tri_noErr, tri_gIsi, tri_gProp, tri_gInv, tri_gFld, tri_callK, tri_lG, tri_list_tup, tri_isBF, tri_isIN, tri_isBN, vw, allM, Sl.see, dLen1, D.plainOr, isCl, D.tyn, Den.isObj, dFld, pick]; exact hP
  · subst e; simp [tri_runF, triF_seq, triF_nx, triF_rt, triF_bk, triF_ct, triF_ret, triF_if, triF_asg, triF_for, aft_nx, aft_rt, aft_rf, fin_rt, fin_rf, triF_retO, fin_nx, tri_fC, tri_gVar, tri_f2, tri_f1, tri_fL, tri_aN, tri_aC, tri_fTup, tri_lDis, tri_fNew, tri_fNot, tri_fAnd, tri_fOr, tri_fIf, tri_fCh, tri_tT, tri_t2, tri_tYes, tri_tNo, tri_tAnd, tri_tOr, tri_asB, tri_truB, tri_truI, tri_truL, tri_truT, tri_truN, tri_add, tri_sub, tri_lt, tri_le, tri_gt, tri_ge, tri_int, tri_len, tri_eqI, tri_neI, tri_iSeq, tri_itsL, tri_itsT, tri_iRan, tri_range, tri_iG, tri_enum, tri_comp, tri_tupL, tri_tupT, tri_pure, tri_bind, tri_need, tri_lim, tri_noErr, tri_gIsi, tri_gProp, tri_gInv, tri_gFld, tri_callK, tri_lG, tri_list_tup, tri_isBF, tri_isIN, tri_isBN, vw, allM, Sl.see, dLen1, D.plainOr, isCl, D.tyn, Den.isObj, dFld, pick]; exact hP
  · subst e; simp [tri_runF, triF_seq, triF_nx, triF_rt, triF_bk, triF_ct, triF_ret, triF_if, triF_asg, triF_for, aft_nx, aft_rt, aft_rf, fin_rt, fin_rf, triF_retO, fin_nx, tri_fC, tri_gVar, tri_f2, tri_f1, tri_fL, tri_aN, tri_aC, tri_fTup, tri_lDis, tri_fNew, tri_fNot, tri_fAnd, tri_fOr, tri_fIf, tri_fCh, tri_tT, tri_t2, tri_tYes, tri_tNo, tri_tAnd, tri_tOr, tri_asB, tri_truB, tri_truI, tri_truL, tri_truT, tri_truN, tri_add, tri_sub, tri_lt, tri_le, tri_gt, tri_ge, tri_int, tri_len, tri_eqI, tri_neI, tri_iSeq, tri_itsL, tri_itsT, tri_iRan, tri_range, tri_iG, tri_enum, tri_comp, tri_tupL, tri_tupT, tri_pure, tri_bind, tri_need, tri_lim, tri_noErr, tri_gIsi, tri_gProp, tri_gInv, tri_gFld, tri_callK, tri_lG, tri_list_tup, tri_isBF, tri_isIN, tri_isBN, vw, allM, Sl.see, dLen1, D.plainOr, isCl, D.tyn, Den.isObj, dFld, pick]; exact hP
  · subst e
    obtain ⟨n, rfl⟩ : ∃ k, n = k + 1 := by
      cases n with
      | zero => simp [datB] at h
      | succ k => exact ⟨k, rfl⟩
    obtain ⟨h1, h2⟩ := datB_tup.mp h
    rw [tri_runF]
    refine ⟨rfl, ?_⟩
    rw [triF_seq, triF_if]
    simp only [tri_tNo, tri_tT, tri_gIsi, tri_gVar]
    refine ⟨_, rfl, rfl, ?_⟩
    show Tri (dTru (.bl true)) m _
    rw [tri_truB, if_neg (by simp), triF_nx, aft_nx, triF_seq, triF_asg, tri_f1]
    simp only [tri_fC]
    show Tri (pure (.int (-1)) : M D) m _
    rw [tri_pure]
    refine ⟨rfl, ?_⟩
    rw [aft_nx]
    show TriF (gSeq _ _ [.va (.tup xs), .va (.int w), .va (.int (-1)), .no]) m _
    rw [triF_seq, triF_for]
    simp only [tri_iSeq, tri_gVar]
    refine ⟨_, rfl, ?_⟩
    rw [tri_itsT]
    have hP' : ∀ b, lotB w (.tup xs) = b → P (.bl b) m := fun b e => by rw [← e]; exact hP
    refine triF_loop (fun j ρ m' => m' = m ∧ ∃ l s3, 0 ≤ l ∧ ρ = [.va (.tup xs), .va (.int w), .va (.int (l - 1)), s3] ∧ lotB w (.tup xs) = ascB w l (xs.drop j)) _ 0 _ m ⟨rfl, 0, .no, by omega, rfl, rfl⟩ (fun j d ρ m' hd hI => ?_) (fun ρ m' hI => ?_)
    · obtain ⟨em, l, s3, hl, eρ, ea⟩ := hI
      subst em eρ
      obtain ⟨hj, ej⟩ := List.getElem?_eq_some_iff.mp hd
      have dr : xs.drop (0 + j) = d :: xs.drop (0 + j + 1) := by
        rw [Nat.zero_add, List.drop_eq_getElem_cons hj, ej]
      rw [dr] at ea
      have hdat := h2 d (List.mem_of_getElem? hd)
      refine ⟨_, rfl, ?_⟩
      show TriF (gSeq _ _ [.va (.tup xs), .va (.int w), .va (.int (l - 1)), .va d]) m' _
      rw [triF_seq, triF_if, tri_tOr, tri_tNo, tri_tT, tri_fL, tri_aC, tri_gVar]
      refine ⟨d, rfl, ?_⟩
      rw [tri_aN]
      refine integer_at hdat ?_
      rw [tri_truB]
      by_cases hi : isInt d = true
      · obtain ⟨k, rfl⟩ : ∃ k, d = .int k := by
          cases d <;> simp [isInt] at hi
          exact ⟨_, rfl⟩
        rw [hi]
        simp only [Bool.not_true, Bool.false_eq_true, if_false, tri_tOr, tri_t2, tri_gVar]
        refine ⟨_, rfl, _, rfl, ?_⟩
        rw [tri_le, tri_asB]
        by_cases h3 : k ≤ l - 1
        · rw [decide_eq_true h3, if_pos rfl, if_pos trivial, triF_ret, tri_fC]
          refine hP' false ?_
          rw [ea, ascB, decide_eq_false (by omega)]
          rfl
        · rw [decide_eq_false h3, if_neg (by simp)]
          refine ⟨_, rfl, _, rfl, ?_⟩
          rw [tri_ge, tri_asB]
          by_cases h4 : w ≤ k
          · rw [decide_eq_true h4, if_pos rfl, triF_ret, tri_fC]
            refine hP' false ?_
            rw [ea, ascB, decide_eq_false (p := k < w) (by omega)]
            simp
          · rw [decide_eq_false h4, if_neg (by simp), triF_nx, aft_nx, triF_asg, tri_gVar]
            refine ⟨_, rfl, rfl, rfl, k + 1, .va (.int k), by omega, ?_, ?_⟩
            · rw [show k + 1 - 1 = k by omega]; rfl
            · rw [ea, ascB, decide_eq_true (p := l ≤ k) (by omega), decide_eq_true (p := k < w) (by omega)]
              simp
      · have hi' : isInt d = false := by simpa using hi
        rw [hi']
        simp only [Bool.not_false, if_true, triF_ret, tri_fC]
        refine hP' false ?_
        rw [ea]
        cases d <;> first | rfl | simp [isInt] at hi'
    · obtain ⟨em, l, s3, hl, eρ, ea⟩ := hI
      subst em eρ
      rw [aft_nx, triF_ret, tri_fC]
      refine hP' true ?_
      rw [ea, List.drop_eq_nil_of_le (by omega)]
      rfl
  · subst e; simp [tri_runF, triF_seq, triF_nx, triF_rt, triF_bk, triF_ct, triF_ret, triF_if, triF_asg, triF_for, aft_nx, aft_rt, aft_rf, fin_rt, fin_rf, triF_retO, fin_nx, tri_fC, tri_gVar, tri_f2, tri_f1, tri_fL, tri_aN, tri_aC, tri_fTup, tri_lDis, tri_fNew, tri_fNot, tri_fAnd, tri_fOr, tri_fIf, tri_fCh, tri_tT, tri_t2, tri_tYes, tri_tNo, tri_tAnd, tri_tOr, tri_asB, tri_truB, tri_truI, tri_truL, tri_truT, tri_truN, tri_add, tri_sub, tri_lt, tri_le, tri_gt, tri_ge, tri_int, tri_len, tri_eqI, tri_neI, tri_iSeq, tri_itsL, tri_itsT, tri_iRan, tri_range, tri_iG, tri_enum, tri_comp, tri_tupL, tri_tupT, tri_pure, tri_bind, tri_need, tri_lim, tri_noErr, tri_gIsi, tri_gProp, tri_gInv, tri_gFld, tri_callK, tri_lG, tri_list_tup, tri_isBF, tri_isIN, tri_isBN, vw, allM, Sl.see, dLen1, D.plainOr, isCl, D.tyn, Den.isObj, dFld, pick]; exact hP
end
end Hd
set_option Elab.async false
set_option linter.all false
set_option maxRecDepth 100000
set_option maxHeartbeats 4000000
namespace Hd
open PySem PySem.Spec PyProof.Rows L2 Den
section
variable {m : SM} {P : D → SM → Prop}
def numB (w : Int) : D → Bool
  | .int k => decide (0 ≤ k) && decide (k < w)
  | _ => false
theorem num_at {n : Nat} {d : D} {w : Int} (h : datB n d = true) (hP : P (.bl (numB w d)) m) : Tri (den_is_number [d, .int w]) m P := by
  unfold den_is_number
  rcases dat_cases h with e | ⟨_, e⟩ | ⟨k, e⟩ | ⟨_, e⟩ | ⟨_, e⟩ | ⟨_, e⟩
  · subst e; simp [tri_runF, triF_seq, triF_nx, triF_rt, triF_bk, triF_ct, triF_ret, triF_if, triF_asg, triF_for, aft_nx, aft_rt, aft_rf, fin_rt, fin_rf, triF_retO, fin_nx, tri_fC, tri_gVar, tri_f2, tri_f1, tri_fL, tri_aN, tri_aC, tri_fTup, tri_lDis, tri_fNew, tri_fNot, tri_fAnd, tri_fOr, tri_fIf, tri_fCh, tri_tT, tri_t2, tri_tYes, tri_tNo, tri_tAnd, tri_tOr, tri_asB, tri_truB, tri_truI, tri_truL, tri_truT, tri_truN, tri_add, tri_sub, tri_lt, tri_le, tri_gt, tri_ge, tri_int, tri_len, tri_eqI, tri_neI, tri_iSeq, tri_itsL, tri_itsT, tri_iRan, tri_range, tri_iG, tri_enum, tri_comp, tri_tupL, tri_tupT, tri_pure, tri_bind, tri_need, tri_lim, tri_noErr, tri_gIsi, tri_gProp, tri_gInv, tri_gFld, tri_callK, tri_lG, tri_list_tup, tri_isBF, tri_isIN, tri_isBN, vw, allM, Sl.see, dLen1, D.plainOr, isCl, D.tyn, Den.isObj, dFld, pick]; exact hP
  · subst e; simp [tri_runF, triF_seq, triF_nx, triF_rt, triF_bk, triF_ct, triF_ret, triF_if, triF_asg, triF_for, aft_nx, aft_rt, aft_rf, fin_rt, fin_rf, triF_retO, fin_nx, tri_fC, tri_gVar, tri_f2, tri_f1, tri_fL, tri_aN, tri_aC, tri_fTup, tri_lDis, tri_fNew, tri_fNot, tri_fAnd, tri_fOr, tri_fIf, tri_fCh, tri_tT, tri_t2, tri_tYes, tri_tNo, tri_tAnd, tri_tOr, tri_asB, tri_truB, tri_truI, tri_truL, tri_truT, tri_truN, tri_add, tri_sub, tri_lt, tri_le, tri_gt, tri_ge, tri_int, tri_len, tri_eqI, tri_neI, tri_iSeq, tri_itsL, tri_itsT, tri_iRan, tri_range, tri_iG, tri_enum, tri_comp, tri_tupL, tri_tupT, tri_pure, tri_bind, tri_need, tri_lim, tri_noErr, tri_gIsi, tri_gProp, tri_gInv, tri_gFld, tri_callK, tri_lG, tri_list_tup, tri_isBF, tri_isIN, tri_isBN, vw, allM, Sl.see, dLen1, D.plainOr, isCl, D.tyn, Den.isObj, dFld, pick]; exact hP
  · subst e
    have en : numB w (.int k) = (decide (0 ≤ k) && decide (k < w)) := rfl
    rw [en] at hP
    by_cases h0 : 0 ≤ k
    · rw [decide_eq_true h0, Bool.true_and] at hP
      simp [tri_runF, triF_seq, triF_nx, triF_rt, triF_bk, triF_ct, triF_ret, triF_if, triF_asg, triF_for, aft_nx, aft_rt, aft_rf, fin_rt, fin_rf, triF_retO, fin_nx, tri_fC, tri_gVar, tri_f2, tri_f1, tri_fL, tri_aN, tri_aC, tri_fTup, tri_lDis, tri_fNew, tri_fNot, tri_fAnd, tri_fOr, tri_fIf, tri_fCh, tri_tT, tri_t2, tri_tYes, tri_tNo, tri_tAnd, tri_tOr, tri_asB, tri_truB, tri_truI, tri_truL, tri_truT, tri_truN, tri_add, tri_sub, tri_lt, tri_le, tri_gt, tri_ge, tri_int, tri_len, tri_eqI, tri_neI, tri_iSeq, tri_itsL, tri_itsT, tri_iRan, tri_range, tri_iG, tri_enum, tri_comp, tri_tupL, tri_tupT, tri_pure, tri_bind, tri_need, tri_lim, tri_noErr, tri_gIsi, tri_gProp, tri_gInv, tri_gFld, tri_callK, tri_lG, tri_list_tup, tri_isBF, tri_isIN, tri_isBN, vw, allM, Sl.see, dLen1, D.plainOr, isCl, D.tyn, Den.isObj, dFld, pick]
      rw [if_pos h0]
      exact hP
    · rw [decide_eq_false h0, Bool.false_and] at hP
      simp [tri_runF, triF_seq, triF_nx, triF_rt, triF_bk, triF_ct, triF_ret, triF_if, triF_asg, triF_for, aft_nx, aft_rt, aft_rf, fin_rt, fin_rf, triF_retO, fin_nx, tri_fC, tri_gVar, tri_f2, tri_f1, tri_fL, tri_aN, tri_aC, tri_fTup, tri_lDis, tri_fNew, tri_fNot, tri_fAnd, tri_fOr, tri_fIf, tri_fCh, tri_tT, tri_t2, tri_tYes, tri_tNo, tri_tAnd, tri_tOr, tri_asB, tri_truB, tri_truI, tri_truL, tri_truT, tri_truN, tri_add, tri_sub, tri_lt, tri_le, tri_gt, tri_ge, tri_int, tri_len, tri_eqI, tri_neI, tri_iSeq, tri_itsL, tri_itsT, tri_iRan, tri_range, tri_iG, tri_enum, tri_comp, tri_tupL, tri_tupT, tri_pure, tri_bind, tri_need, tri_lim, tri_noErr, tri_gIsi, tri_gProp, tri_gInv, tri_gFld, tri_callK, tri_lG, tri_list_tup, tri_isBF, tri_isIN, tri_isBN, vw, allM, Sl.see, dLen1, D.plainOr, isCl, D.tyn, Den.isObj, dFld, pick]
      rw [if_neg h0]
      exact hP
  · subst e; simp [tri_runF, triF_seq, triF_nx, triF_rt, triF_bk, triF_ct, triF_ret, triF_if, triF_asg, triF_for, aft_nx, aft_rt, aft_rf, fin_rt, fin_rf, triF_retO, fin_nx, tri_fC, tri_gVar, tri_f2, tri_f1, tri_fL, tri_aN, tri_aC, tri_fTup, tri_lDis, tri_fNew, tri_fNot, tri_fAnd, tri_fOr, tri_fIf, tri_fCh, tri_tT, tri_t2, tri_tYes, tri_tNo, tri_tAnd, tri_tOr, tri_asB, tri_truB, tri_truI, tri_truL, tri_truT, tri_truN, tri_add, tri_sub, tri_lt, tri_le, tri_gt, tri_ge, tri_int, tri_len, tri_eqI, tri_neI, tri_iSeq, tri_itsL, tri_itsT, tri_iRan, tri_range, tri_iG, tri_enum, tri_comp, tri_tupL, tri_tupT, tri_pure, tri_bind, tri_need, tri_lim, tri_noErr, tri_gIsi, tri_gProp, tri_gInv, tri_gFld, tri_callK, tri_lG, tri_list_tup, tri_isBF, tri_isIN, tri_isBN, vw, allM, Sl.see, dLen1, D.plainOr, isCl, D.tyn, Den.isObj, dFld, pick]; exact hP
  · subst e; simp [tri_runF, triF_seq, triF_nx, triF_rt, triF_bk, triF_ct, triF_ret, triF_if, triF_asg, triF_for, aft_nx, aft_rt, aft_rf, fin_rt, fin_rf, triF_retO, fin_nx, tri_fC, tri_gVar, tri_f2, tri_f1, tri_fL, tri_aN, tri_aC, tri_fTup, tri_lDis, tri_fNew, tri_fNot, tri_fAnd, tri_fOr, tri_fIf, tri_fCh, tri_tT, tri_t2, tri_tYes, tri_tNo, tri_tAnd, tri_tOr, tri_asB, tri_truB, tri_truI, tri_truL, tri_truT, tri_truN, tri_add, tri_sub, tri_lt, tri_le, tri_gt, tri_ge, tri_int, tri_len, tri_eqI, tri_neI, tri_iSeq, tri_itsL, tri_itsT, tri_iRan, tri_range, tri_iG, tri_enum, tri_comp, tri_tupL, tri_tupT, tri_pure, tri_bind, tri_need, tri_lim, tri_noErr, tri_gIsi, tri_gProp, tri_gInv, tri_gFld, tri_callK, tri_lG, tri_list_tup, tri_isBF, tri_isIN, tri_isBN, vw, allM, Sl.see, dLen1, D.plainOr, isCl, D.tyn, Den.isObj, dFld, pick]; exact hP
  · subst e; simp [tri_runF, triF_seq, triF_nx, triF_rt, triF_bk, triF_ct, triF_ret, triF_if, triF_asg, triF_for, aft_nx, aft_rt, aft_rf, fin_rt, fin_rf, triF_retO, fin_nx, tri_fC, tri_gVar, tri_f2, tri_f1, tri_fL, tri_aN, tri_aC, tri_fTup, tri_lDis, tri_fNew, tri_fNot, tri_fAnd, tri_fOr, tri_fIf, tri_fCh, tri_tT, tri_t2, tri_tYes, tri_tNo, tri_tAnd, tri_tOr, tri_asB, tri_truB, tri_truI, tri_truL, tri_truT, tri_truN, tri_add, tri_sub, tri_lt, tri_le, tri_gt, tri_ge, tri_int, tri_len, tri_eqI, tri_neI, tri_iSeq, tri_itsL, tri_itsT, tri_iRan, tri_range, tri_iG, tri_enum, tri_comp, tri_tupL, tri_tupT, tri_pure, tri_bind, tri_need, tri_lim, tri_noErr, tri_gIsi, tri_gProp, tri_gInv, tri_gFld, tri_callK, tri_lG, tri_list_tup, tri_isBF, tri_isIN, tri_isBN, vw, allM, Sl.see, dLen1, D.plainOr, isCl, D.tyn, Den.isObj, dFld, pick]; exact hP
theorem asc_at {n : Nat} {xs : List D} {w : Int} (h : datB (n + 1) (.tup xs) = true) (hP : P (.bl (ascB w 0 xs)) m) : Tri (den__is_ascending [.tup xs, .int w]) m P := by
  obtain ⟨h1, h2⟩ := datB_tup.mp h
  unfold den__is_ascending
  rw [tri_runF]
  refine ⟨rfl, ?_⟩
  rw [triF_seq, triF_asg, tri_fC]
  refine ⟨rfl, ?_⟩
  rw [aft_nx]
  show TriF (gSeq _ _ [.va (.tup xs), .va (.int w), .va (.int 0), .no]) m _
  rw [triF_seq, triF_for]
  simp only [tri_iSeq, tri_gVar]
  refine ⟨_, rfl, ?_⟩
  rw [tri_itsT]
  have hP' : ∀ b, ascB w 0 xs = b → P (.bl b) m := fun b e => by rw [← e]; exact hP
  refine triF_loop (fun j ρ m' => m' = m ∧ ∃ l s3, 0 ≤ l ∧ ρ = [.va (.tup xs), .va (.int w), .va (.int l), s3] ∧ ascB w 0 xs = ascB w l (xs.drop j)) _ 0 _ m ⟨rfl, 0, .no, by omega, rfl, rfl⟩ (fun j d ρ m' hd hI => ?_) (fun ρ m' hI => ?_)
  · obtain ⟨em, l, s3, hl, eρ, ea⟩ := hI
    subst em eρ
    obtain ⟨hj, ej⟩ := List.getElem?_eq_some_iff.mp hd
    have dr : xs.drop (0 + j) = d :: xs.drop (0 + j + 1) := by
      rw [Nat.zero_add, List.drop_eq_getElem_cons hj, ej]
    rw [dr] at ea
    have hdat := h2 d (List.mem_of_getElem? hd)
    refine ⟨_, rfl, ?_⟩
    show TriF (gSeq _ _ [.va (.tup xs), .va (.int w), .va (.int l), .va d]) m' _
    rw [triF_seq, triF_if, tri_tOr, tri_tNo, tri_tT, tri_fL, tri_aC, tri_gVar]
    refine ⟨d, rfl, ?_⟩
    rw [tri_aC, tri_gVar]
    refine ⟨_, rfl, ?_⟩
    rw [tri_aN]
    refine num_at hdat ?_
    rw [tri_truB]
    by_cases hi : numB w d = true
    · obtain ⟨k, rfl⟩ : ∃ k, d = .int k := by
        cases d <;> simp [numB] at hi
        exact ⟨_, rfl⟩
      rw [hi]
      have en : numB w (.int k) = (decide (0 ≤ k) && decide (k < w)) := rfl
      rw [en] at hi
      rw [Bool.and_eq_true, decide_eq_true_iff, decide_eq_true_iff] at hi
      simp only [Bool.not_true, Bool.false_eq_true, if_false, tri_t2, tri_gVar]
      refine ⟨_, rfl, _, rfl, ?_⟩
      rw [tri_lt, tri_asB]
      by_cases h3 : k < l
      · rw [decide_eq_true h3, if_pos rfl, triF_ret, tri_fC]
        refine hP' false ?_
        rw [ea, ascB, decide_eq_false (by omega)]
        rfl
      · rw [decide_eq_false h3, if_neg (by simp), triF_nx, aft_nx, triF_asg, tri_f2]
        simp only [tri_gVar, tri_fC]
        refine ⟨_, rfl, ?_⟩
        rw [tri_add]
        refine ⟨rfl, rfl, k + 1, .va (.int k), by omega, rfl, ?_⟩
        rw [ea, ascB, decide_eq_true (p := l ≤ k) (by omega), decide_eq_true hi.2]
        simp
    · have hi' : numB w d = false := by simpa using hi
      rw [hi']
      simp only [Bool.not_false, if_true, triF_ret, tri_fC]
      refine hP' false ?_
      rw [ea]
      cases d with
      | int k =>
        have en : numB w (.int k) = (decide (0 ≤ k) && decide (k < w)) := rfl
        rw [en] at hi'
        rw [ascB]
        by_cases h0 : 0 ≤ k
        · rw [decide_eq_true h0, Bool.true_and] at hi'
          rw [hi']; simp
        · rw [decide_eq_false (p := l ≤ k) (by omega)]; rfl
      | _ => rfl
  · obtain ⟨em, l, s3, hl, eρ, ea⟩ := hI
    subst em eρ
    rw [aft_nx, triF_ret, tri_fC]
    refine hP' true ?_
    rw [ea, List.drop_eq_nil_of_le (by omega)]
    rfl
theorem is_lot_at {n : Nat} {d : D} {w : Nat} (hw : w ≤ 6) (h : datB n d = true) (hP : P (.bl (lotB w d)) m) : Tri (den_is_lot [d, .int (w : Nat)]) m P := by
  unfold den_is_lot
  rw [tri_runF]
  refine ⟨rfl, ?_⟩
  rw [triF_seq, triF_exp]
  simp only [tri_fL, tri_aC, tri_f2, tri_gVar, tri_fC, tri_aN]
  refine ⟨_, rfl, ?_⟩
  rw [tri_add]
  have chk : ∀ {m : SM} {P : D → SM → Prop}, P .non m → Tri (den_check_number [.int (w : Nat), .int (6 + 1)]) m P := fun {m P} q => by
    unfold den_check_number
    rw [tri_runF]
    refine ⟨rfl, ?_⟩
    rw [triF_if]
    simp only [tri_tNo, tri_tT, tri_fL, tri_aC, tri_gVar, tri_aN]
    refine ⟨_, rfl, _, rfl, number_at (by omega) (by omega) ?_⟩
    rw [tri_truB, if_neg (by simp), triF_nx]
    exact q
  refine chk ?_
  rw [aft_nx, triF_ret, tri_fAnd, tri_gIsi]
  simp only [tri_gVar]
  refine ⟨d, rfl, ?_⟩
  rcases dat_cases h with e | ⟨_, e⟩ | ⟨_, e⟩ | ⟨_, e⟩ | ⟨xs, e⟩ | ⟨_, e⟩
  · subst e; refine ⟨rfl, ?_⟩; show Tri (dTru (.bl false)) m _; rw [tri_truB, if_neg (by simp)]; exact hP
  · subst e; refine ⟨rfl, ?_⟩; show Tri (dTru (.bl false)) m _; rw [tri_truB, if_neg (by simp)]; exact hP
  · subst e; refine ⟨rfl, ?_⟩; show Tri (dTru (.bl false)) m _; rw [tri_truB, if_neg (by simp)]; exact hP
  · subst e; refine ⟨rfl, ?_⟩; show Tri (dTru (.bl false)) m _; rw [tri_truB, if_neg (by simp)]; exact hP
  · subst e
    refine ⟨rfl, ?_⟩
    show Tri (dTru (.bl true)) m _
    rw [tri_truB, if_pos rfl]
    simp only [tri_fL, tri_aC, tri_gVar, tri_aN]
    obtain ⟨n, rfl⟩ : ∃ k, n = k + 1 := by
      cases n with
      | zero => simp [datB] at h
      | succ k => exact ⟨k, rfl⟩
    exact ⟨_, rfl, _, rfl, asc_at h hP⟩
  · subst e; refine ⟨rfl, ?_⟩; show Tri (dTru (.bl false)) m _; rw [tri_truB, if_neg (by simp)]; exact hP
theorem chk_ok {n : Nat} {d : D} {w : Nat} (hw : w ≤ 6) (h : datB n d = true) (hl : lotB w d = true) (hP : P .non m) : Tri (den_check_lot [d, .int (w : Nat)]) m P := by
  unfold den_check_lot
  rw [tri_runF]
  refine ⟨rfl, ?_⟩
  rw [triF_if]
  simp only [tri_tNo, tri_tT, tri_fL, tri_aC, tri_gVar, tri_aN]
  refine ⟨_, rfl, _, rfl, is_lot_at hw h ?_⟩
  rw [hl, tri_truB, if_neg (by simp), triF_nx]
  exact hP
end
end Hd
set_option Elab.async false
set_option linter.all false
set_option maxRecDepth 100000
set_option maxHeartbeats 4000000
namespace Hd
open PySem PySem.Spec PyProof.Rows L2 Den
/-- of a thing and its number: the number, if the thing is one that g tells -/
def pickF (g : D → Bool) : D → Option D
  | .tup [.int j, x] => if g x then some (.int j) else none
  | _ => none
theorem enum_gen (g : D → Bool) : ∀ (xs : List D) (k : Nat), ((xs.zipIdx k).map fun p => D.tup [.int (p.2 : Nat), p.1]).filterMap (pickF g) = ((List.range xs.length).filter fun i => g (xs.getD i .non)).map fun i : Nat => D.int ((i + k : Nat) : Int)
  | [], k => rfl
  | x :: xs, k => by
    rw [List.zipIdx_cons, List.map_cons, List.filterMap_cons, List.length_cons, List.range_succ_eq_map, List.filter_cons, List.filter_map, enum_gen g xs (k + 1)]
    have e : (List.range xs.length).filter ((fun i => g ((x :: xs).getD i .non)) ∘ Nat.succ) = (List.range xs.length).filter fun i => g (xs.getD i .non) := by
      refine List.filter_congr fun i _ => ?_
      simp
    rw [e]
    have e2 : ((x :: xs).getD 0 D.non) = x := rfl
    rw [e2]
    have e3 : ∀ l : List Nat, (l.map fun i : Nat => D.int ((i + (k + 1) : Nat) : Int)) = (l.map Nat.succ).map fun i : Nat => D.int ((i + k : Nat) : Int) := fun l => by
      rw [List.map_map]
      refine List.map_congr_left fun i _ => ?_
      show D.int _ = D.int _
      rw [show i + (k + 1) = i.succ + k by omega]
    unfold pickF
    cases h : g x
    · simp only [h, Bool.false_eq_true, if_false]
      exact e3 _
    · simp only [h, if_true, List.map_cons]
      rw [e3, Nat.zero_add]
theorem enum_pick (g : D → Bool) (xs : List D) : (enumD xs).filterMap (pickF g) = ((List.range xs.length).filter fun i => g (xs.getD i .non)).map fun i : Nat => D.int (i : Int) := by
  have := enum_gen g xs 0
  simpa [enumD] using this
theorem enum_len (xs : List D) : (enumD xs).length = xs.length := by unfold enumD; rw [List.length_map, List.length_zipIdx]
theorem enum_mem {xs : List D} {d : D} (h : d ∈ enumD xs) : ∃ j x, xs[j]? = some x ∧ d = .tup [.int (j : Nat), x] := by
  obtain ⟨i, hi⟩ := List.mem_iff_getElem?.mp h
  obtain ⟨x, h1, h2⟩ := enum_at hi
  exact ⟨i, x, h1, h2⟩
section
variable {m : SM} {P : D → SM → Prop}
theorem lotc_at {w : Nat} {r : List Bool} (hr : r.length = w) (hw : w ≤ 6) (hP : P (lotR w r) m) : Tri (den__lot_of_cells [rowT r]) m P := by
  unfold den__lot_of_cells
  rw [tri_runF]
  refine ⟨rfl, ?_⟩
  rw [triF_ret]
  simp only [tri_fL, tri_aC, tri_fNew, tri_comp, tri_iG, tri_gVar, tri_aN]
  refine ⟨_, rfl, ?_⟩
  unfold rowT
  rw [tri_enumT]
  refine ⟨by rw [enum_len, List.length_map]; omega, tri_compL (pickF fun d => match d with | .bl b => b | _ => false) _ (fun d hd => ?_) ?_⟩
  · obtain ⟨j, x, h1, h2⟩ := enum_mem hd
    subst h2
    rw [List.getElem?_map] at h1
    obtain ⟨b, _, eb⟩ := Option.map_eq_some_iff.mp h1
    subst eb
    refine ⟨_, rfl, ?_⟩
    simp only [tri_tT, tri_gVar]
    refine ⟨_, rfl, ?_⟩
    rw [tri_truB]
    refine ⟨rfl, ?_, fun hb => ⟨_, rfl, by trivial, ?_⟩⟩
    · cases b <;> rfl
    · subst hb; rfl
  · rw [enum_pick, tri_tupL]
    have e : (((List.range (r.map D.bl).length).filter fun i => (match (r.map D.bl).getD i .non with | .bl b => b | _ => false)).map fun i : Nat => D.int (i : Int)) = (lotN w r).map .int := by
      unfold lotN
      rw [List.map_map, List.length_map, hr]
      have : (List.range w).filter (fun i => (match (r.map D.bl).getD i .non with | .bl b => b | _ => false)) = (List.range w).filter fun i => r.getD i false := by
        refine List.filter_congr fun i hi => ?_
        have hi : i < r.length := by rw [hr]; exact List.mem_range.mp hi
        simp [hi]
      rw [this]
      rfl
    rw [e]
    exact hP
theorem row_lots_at {w : Nat} {a : List (List Bool)} (hA : Rect w a) (hP : P (.lst (a.map (lotR w))) m) : Tri (den_Table_row_lots [tabD w a]) m P := by
  have h6 := hA.high
  have w6 := hA.wide
  unfold den_Table_row_lots
  rw [tri_runF]
  refine ⟨rfl, ?_⟩
  rw [triF_ret]
  simp only [tri_fNew, tri_comp, tri_iSeq, tri_gFld, tri_gVar]
  refine ⟨_, rfl, fld_cells ?_⟩
  unfold cells
  rw [tri_itsT]
  refine ⟨by simp; omega, tri_compM (fun d => match d with | .tup xs => lotR w (xs.map fun x => match x with | .bl b => b | _ => false) | _ => .non) _ (fun d hd => ?_) ?_⟩
  · obtain ⟨r, hr, e⟩ := List.mem_map.mp hd
    subst e
    refine ⟨_, rfl, ?_⟩
    simp only [tri_fL, tri_aC, tri_gVar, tri_aN]
    refine ⟨_, rfl, lotc_at (hA.row r hr) w6 ⟨rfl, ?_⟩⟩
    unfold rowT
    simp [Function.comp_def]
  · have e : ((a.map rowT).map fun d => match d with | .tup xs => lotR w (xs.map fun x => match x with | .bl b => b | _ => false) | _ => D.non) = a.map (lotR w) := by
      rw [List.map_map]
      refine List.map_congr_left fun r hr => ?_
      show lotR w ((r.map D.bl).map fun x => match x with | .bl b => b | _ => false) = lotR w r
      rw [List.map_map]
      have : (r.map ((fun x => match x with | D.bl b => b | _ => false) ∘ D.bl)) = r := by
        conv => rhs; rw [← List.map_id r]
        exact List.map_congr_left fun b _ => rfl
      rw [this]
    rw [e]
    exact hP
end
end Hd
set_option Elab.async false
set_option linter.all false
set_option maxRecDepth 100000
set_option maxHeartbeats 4000000
namespace Hd
open PySem PySem.Spec PyProof.Rows L2 Den
theorem asc_ints {w : Int} : ∀ {xs : List D} {l : Int}, ascB w l xs = true → ∃ ks : List Int, xs = ks.map .int ∧ ∀ k ∈ ks, l ≤ k ∧ k < w
  | [], l, _ => ⟨[], rfl, by simp⟩
  | .int k :: r, l, h => by
    rw [ascB, Bool.and_eq_true, Bool.and_eq_true, decide_eq_true_iff, decide_eq_true_iff] at h
    obtain ⟨h1, h2, h3⟩ := h
    obtain ⟨ks, e, hk⟩ := asc_ints h3
    refine ⟨k :: ks, by rw [e]; rfl, fun j hj => ?_⟩
    rcases List.mem_cons.mp hj with q | q
    · subst q; exact ⟨h1, h2⟩
    · have := hk j q; omega
  | .non :: _, _, h => by simp [ascB] at h
  | .bl _ :: _, _, h => by simp [ascB] at h
  | .str _ :: _, _, h => by simp [ascB] at h
  | .tup _ :: _, _, h => by simp [ascB] at h
  | .lst _ :: _, _, h => by simp [ascB] at h
  | .obj _ _ :: _, _, h => by simp [ascB] at h
  | .scr _ :: _, _, h => by simp [ascB] at h
  | .sto :: _, _, h => by simp [ascB] at h
  | .rng _ _ :: _, _, h => by simp [ascB] at h
  | .exc _ _ :: _, _, h => by simp [ascB] at h
theorem lotB_ex {w : Int} {d : D} (h : lotB w d = true) : ∃ ks : List Int, d = .tup (ks.map .int) ∧ (∀ k ∈ ks, 0 ≤ k ∧ k < w) := by
  cases d with
  | tup xs =>
    obtain ⟨ks, e, hk⟩ := asc_ints (show ascB w 0 xs = true from h)
    exact ⟨ks, by rw [e], hk⟩
  | _ => simp [lotB] at h
theorem asc_nats {w : Nat} : ∀ {l : List Nat} {b : Nat}, l.Pairwise (· < ·) → (∀ i ∈ l, b ≤ i ∧ i < w) → ascB w b ((l.map fun i : Nat => (i : Int)).map .int) = true
  | [], b, _, _ => rfl
  | i :: l, b, hp, hb => by
    obtain ⟨h1, h2⟩ := List.pairwise_cons.mp hp
    have hi := hb i (by simp)
    rw [List.map_cons, List.map_cons, ascB, Bool.and_eq_true, Bool.and_eq_true, decide_eq_true_iff, decide_eq_true_iff]
    refine ⟨by omega, by omega, ?_⟩
    have := asc_nats (b := i + 1) h2 fun j hj => ⟨h1 j hj, (hb j (by simp [hj])).2⟩
    exact this
end Hd
set_option Elab.async false
set_option linter.all false
set_option maxRecDepth 100000
set_option maxHeartbeats 4000000
namespace Hd
open PySem PySem.Spec PyProof.Rows L2 Den
section
variable {m : SM} {P : D → SM → Prop} {n w : Nat} {d : D} {a : List (List Bool)}
def natsD (l : List Nat) : D := .tup (l.map fun i : Nat => D.int (i : Int))
end
end Hd
set_option Elab.async false
set_option linter.all false
set_option maxRecDepth 100000
set_option maxHeartbeats 4000000
namespace Den
open PySem PySem.Spec PyProof.Rows L2
end Den
set_option Elab.async false
set_option linter.all false
set_option maxRecDepth 100000
set_option maxHeartbeats 4000000
set_option Elab.async false
set_option linter.all false
set_option maxRecDepth 100000
set_option maxHeartbeats 4000000
namespace Hd
open PySem PySem.Spec PyProof.Rows L2 Den
section
variable {m : SM} {P : D → SM → Prop}
theorem addA_at {xs ys : List D} (h : xs.length + ys.length ≤ 16777216) (hP : P (.tup (xs ++ ys)) m) : Tri (dAddA (.tup xs) (.tup ys)) m P := by
  cases xs with
  | nil =>
    show Tri (do lim ys.length; pure (.tup ys)) m P
    rw [tri_bind, tri_lim, tri_pure]
    exact ⟨by simpa using h, hP⟩
  | cons x xs =>
    show Tri (do need (!(x :: xs).isEmpty); lim ((x :: xs).length + ys.length); pure (.tup ((x :: xs) ++ ys))) m P
    rw [tri_bind, tri_need]
    refine ⟨rfl, ?_⟩
    rw [tri_bind, tri_lim, tri_pure]
    exact ⟨h, hP⟩
theorem int_dat (n : Nat) (i : Int) : datB n (.int i) = true := by cases n <;> rfl
theorem bl_dat (n : Nat) (b : Bool) : datB n (.bl b) = true := by cases n <;> rfl
theorem cut_mem {α : Type} {xs : List α} {lo hi : Option Int} {x : α} (h : x ∈ Den.cutD xs lo hi) : x ∈ xs := by
  unfold Den.cutD at h
  exact List.mem_of_mem_drop (List.mem_of_mem_take h)
theorem cut_len {α : Type} (xs : List α) (lo hi : Option Int) : (Den.cutD xs lo hi).length ≤ xs.length := by
  unfold Den.cutD
  rw [List.length_take, List.length_drop]
  omega
theorem slT {F : EV → M D} {A B : EV → M (Option Int)} {lo hi : Option Int} {xs : List D} {ρ : EV} (hF : Tri (F ρ) m fun d m' => d = .tup xs ∧ m' = m) (h1 : A ρ m = .ok lo m) (h2 : B ρ m = .ok hi m) (hP : P (.tup (Den.cutD xs lo hi)) m) : Tri (gSliceT F A B ρ) m P := by
  unfold gSliceT
  rw [tri_bind]
  refine hF.mono fun d m' ⟨e1, e2⟩ => ?_
  subst e1 e2
  have e : (A ρ >>= fun lo => B ρ >>= fun hi => dCutT (.tup xs) lo hi) m' = .ok (.tup (Den.cutD xs lo hi)) m' := by
    rw [bind_run, h1]
    show (B ρ >>= fun hi => dCutT (.tup xs) lo hi) m' = _
    rw [bind_run, h2]
    rfl
  show Tri (A ρ >>= fun lo => B ρ >>= fun hi => dCutT (.tup xs) lo hi) m' P
  unfold Tri
  rw [e]
  exact hP
def nearR : SV → M Fl := (gSeq (gAsg 5 [] (fNew (lDis (aC (fNew (compV (eName 6) (iSeq (gVar 2)) tYes (gVar 6))) (aC (f2 dAddA (gVar 2) (fTup (aC (gVar 1) aN))) (aC (f2 dAddA (fTup (aC (f1 dNeg (fC (.int 1))) aN)) (gVar 2)) (aC (f2 dAddA (fTup (aC (fC (.bl false)) aN)) (gSliceT (gVar 2) (oYes (fC (.int 1))) oNo)) (aC (fTup (aC (fC (.int 0)) (aC (fC (.int 0)) aN))) (aC (gVar 4) (aC (fTup (aC (gVar 2) aN)) aN)))))))))) (gSeq (gAsg 5 [] (f2 dAdd (gVar 5) (fNew (lDis (aC (fC .non) (aC (fC (.str "0")) (aC (fC (.int 0)) (aC (f2 dAddA (gVar 2) (fTup (aC (f2 dAdd (gVar 1) (f2 dPow (fC (.int 10)) (fC (.int 20)))) aN))) (aC (f2 dAddA (gVar 2) (fTup (aC (fC (.str "1")) aN))) (aC (f2 dAddA (gVar 2) (fTup (aC (fC .non) aN))) (aC (f2 dAddA (gVar 2) (fTup (aC (fC (.bl true)) aN))) (aC (fNew (lDis aN)) (aC (fC (.str "")) aN))))))))))))) (gRet (f2 dIx (gVar 5) (fL den__law_take (aC (gVar 0) (aC (fC (.int 16)) aN)))))))
theorem near_at {n : Nat} (hm : SI m) (hn : n ≤ 6) (hP : ∀ m' d, SI m' → datB 3 d = true → P d m') : Tri (den__law_near_lot [.sto, .int (n : Nat)]) m P := by
  unfold den__law_near_lot
  rw [tri_runF]
  refine ⟨rfl, ?_⟩
  rw [triF_seq, triF_asg]
  simp only [tri_fL, tri_aC, tri_gVar, tri_aN]
  refine ⟨_, rfl, _, rfl, lot_run hm (by omega) (by omega) fun m1 lot s1 hl => ⟨rfl, ?_⟩⟩
  obtain ⟨ks, el, hk, hlen⟩ := hl
  subst el
  generalize exs : ks.map D.int = xs
  have xl : xs.length ≤ 1000 := by rw [← exs, List.length_map]; exact hlen
  have xd : ∀ k, ∀ x ∈ xs, datB k x = true := fun k x hx => by
    rw [← exs] at hx
    obtain ⟨i, _, e⟩ := List.mem_map.mp hx
    rw [← e]
    exact int_dat k i
  have tupd : ∀ {k : Nat} {ys : List D}, ys.length ≤ 3000 → (∀ y ∈ ys, datB k y = true) → datB (k + 1) (.tup ys) = true := fun h1 h2 => datB_tup.mpr ⟨h1, h2⟩
  rw [aft_nx, triF_seq, triF_asg]
  simp only [tri_fL, tri_aC, tri_f2, tri_gVar, tri_aN, tri_fC]
  refine ⟨_, rfl, _, rfl, ?_⟩
  rw [tri_len]
  refine ⟨xs.length, rfl, ?_⟩
  rw [tri_sub]
  refine take_at s1 (by omega) fun m2 z s2 z0 z1 => ⟨rfl, ?_⟩
  rw [aft_nx, triF_seq, triF_asg]
  simp only [tri_fTup, tri_aC, tri_fC, tri_aN]
  refine ⟨by simp, rfl, ?_⟩
  rw [aft_nx]
  show TriF (gSeq _ _ [.va .sto, .va (.int (n : Nat)), .va (.tup xs), .va (.int z), .va (.tup [.int 1, .int 0]), .no, .no]) m2 _
  have rest : ∀ (t : List D), t.length ≤ 3000 → (∀ y ∈ t, datB 2 y = true) → TriF (nearR
      [.va .sto, .va (.int (n : Nat)), .va (.tup xs), .va (.int z), .va (.tup t), .no, .no]) m2 (fin P) := by
    intro t ht1 ht2
    unfold nearR
    rw [triF_seq, triF_asg]
    simp only [tri_fNew, tri_lDis, tri_aC, tri_comp, tri_iSeq, tri_f2, tri_f1, tri_fTup, tri_gVar, tri_aN, tri_fC]
    refine ⟨_, rfl, ?_⟩
    rw [tri_itsT]
    refine ⟨by omega, tri_compM (fun x => x) _ (fun d hd => ⟨_, rfl, ?_⟩) ?_⟩
    · rw [tri_gVar]; exact ⟨_, rfl, rfl, rfl⟩
    rw [List.map_id']
    refine ⟨_, rfl, _, rfl, by simp, addA_at (by simp; omega) ?_⟩
    show Tri (pure (.int (-1)) : M D) m2 _
    rw [tri_pure]
    refine ⟨by simp, _, rfl, addA_at (by simp; omega) ⟨by simp, ?_⟩⟩
    have c1 := cut_len xs (some 1) none
    refine slT (xs := xs) (lo := some 1) (hi := none) (by rw [tri_gVar]; exact ⟨_, rfl, rfl, rfl⟩) rfl rfl ?_
    refine addA_at (by simp; omega) ⟨by simp, _, rfl, _, rfl, by simp, by simp, rfl, ?_⟩
    generalize eA : [D.lst xs, .tup (xs ++ [.int (n : Nat)]), .tup ([.int (-1)] ++ xs), .tup ([.bl false] ++ Den.cutD xs (some 1) none), .tup [.int 0, .int 0], .tup t, .tup [.tup xs]] = A
    have lA : A.length = 7 := by rw [← eA]; rfl
    have hA : ∀ d ∈ A, datB 3 d = true := fun d hd => by
      rw [← eA] at hd
      simp only [List.mem_cons, List.not_mem_nil, or_false] at hd
      rcases hd with e | e | e | e | e | e | e <;> subst e
      · exact datB_lst.mpr ⟨by omega, xd 2⟩
      · refine tupd (by simp; omega) fun y hy => ?_
        rcases List.mem_append.mp hy with q | q
        · exact xd 2 y q
        · simp at q; subst q; exact int_dat _ _
      · refine tupd (by simp; omega) fun y hy => ?_
        rcases List.mem_append.mp hy with q | q
        · simp at q; subst q; exact int_dat _ _
        · exact xd 2 y q
      · refine tupd (by simp; omega) fun y hy => ?_
        rcases List.mem_append.mp hy with q | q
        · simp at q; subst q; exact bl_dat _ _
        · exact xd 2 y (cut_mem q)
      · exact tupd (by simp) fun y hy => by simp at hy; subst hy; exact int_dat _ _
      · exact tupd ht1 ht2
      · exact tupd (by simp) fun y hy => by simp at hy; subst hy; exact tupd (by omega) (xd 1)
    rw [aft_nx]
    show TriF (gSeq _ _ [.va .sto, .va (.int (n : Nat)), .va (.tup xs), .va (.int z), .va (.tup t), .va (.lst A), .no]) m2 _
    rw [triF_seq, triF_asg]
    simp only [tri_f2, tri_fNew, tri_lDis, tri_aC, tri_fTup, tri_gVar, tri_fC, tri_aN]
    refine ⟨_, rfl, _, rfl, _, rfl, ?_⟩
    rw [tri_pow]
    refine ⟨by decide, ?_⟩
    rw [tri_add]
    refine ⟨by simp, addA_at (by simp; omega) ⟨_, rfl, by simp, addA_at (by simp; omega) ⟨_, rfl, by simp, addA_at (by simp; omega) ⟨_, rfl, by simp, addA_at (by simp; omega) ⟨by simp, by simp, ?_⟩⟩⟩⟩⟩
    generalize eB : [D.non, .str "0", .int 0, .tup (xs ++ [.int ((n : Nat) + 10 ^ (20 : Int).toNat)]), .tup (xs ++ [.str "1"]), .tup (xs ++ [.non]), .tup (xs ++ [.bl true]), .lst [], .str ""] = B
    have lB : B.length = 9 := by rw [← eB]; rfl
    have hB : ∀ d ∈ B, datB 3 d = true := fun d hd => by
      rw [← eB] at hd
      have app : ∀ (q : D), datB 2 q = true → datB 3 (.tup (xs ++ [q])) = true := fun q hq => tupd (by simp; omega) fun y hy => by
        rcases List.mem_append.mp hy with u | u
        · exact xd 2 y u
        · simp at u; subst u; exact hq
      simp only [List.mem_cons, List.not_mem_nil, or_false] at hd
      rcases hd with e | e | e | e | e | e | e | e | e <;> subst e
      · rfl
      · decide +kernel
      · rfl
      · exact app _ (int_dat _ _)
      · exact app _ (by decide +kernel)
      · exact app _ rfl
      · exact app _ rfl
      · rfl
      · decide +kernel
    rw [tri_addL]
    refine ⟨by omega, rfl, ?_⟩
    rw [aft_nx]
    show TriF (gRet _ [.va .sto, .va (.int (n : Nat)), .va (.tup xs), .va (.int z), .va (.tup t), .va (.lst (A ++ B)), .no]) m2 _
    rw [triF_ret]
    simp only [tri_f2, tri_fL, tri_aC, tri_gVar, tri_fC, tri_aN]
    refine ⟨_, rfl, _, rfl, take_at s2 (by omega) fun m3 y s3 y0 y1 => ?_⟩
    obtain ⟨i, rfl⟩ := Int.eq_ofNat_of_zero_le y0
    have hi : i < (A ++ B).length := by rw [List.length_append]; omega
    rw [tri_ixL, Den.atI_nat]
    refine ⟨(A ++ B)[i], by rw [List.getElem?_eq_getElem hi], hP m3 _ s3 ?_⟩
    rcases List.mem_append.mp (List.getElem_mem hi) with q | q
    · exact hA _ q
    · exact hB _ q
  rw [triF_seq, triF_if]
  simp only [tri_t2, tri_fL, tri_aC, tri_gVar, tri_fC, tri_aN]
  refine ⟨_, rfl, ?_⟩
  rw [tri_len]
  refine ⟨xs.length, rfl, ?_⟩
  rw [tri_gt, tri_asB]
  split
  · rename_i hgt
    have hgt := of_decide_eq_true hgt
    obtain ⟨i, rfl⟩ := Int.eq_ofNat_of_zero_le z0
    have hi1 : i + 1 < xs.length := by omega
    have hi0 : i < xs.length := by omega
    rw [triF_asg]
    simp only [tri_f2]
    have c0 := cut_len xs none (some (i : Int))
    have c2 := cut_len xs (some ((i : Int) + 2)) none
    refine slT (xs := xs) (lo := none) (hi := some (i : Int)) (by rw [tri_gVar]; exact ⟨_, rfl, rfl, rfl⟩) rfl rfl ?_
    simp only [tri_fTup, tri_aC, tri_f2, tri_gVar, tri_fC, tri_aN]
    refine ⟨_, rfl, _, rfl, ?_⟩
    rw [tri_add]
    refine ixT_at (i := i + 1) (by rw [List.getElem?_eq_getElem hi1]) ⟨_, rfl, _, rfl, ixT_at (i := i) (by rw [List.getElem?_eq_getElem hi0]) ⟨by simp, ?_⟩⟩
    refine addA_at (by simp; omega) ?_
    refine slT (xs := xs) (lo := some ((i : Int) + 2)) (hi := none) (by rw [tri_gVar]; exact ⟨_, rfl, rfl, rfl⟩) rfl rfl ?_
    refine addA_at (by simp; omega) ⟨rfl, ?_⟩
    rw [aft_nx]
    refine rest _ (by simp; omega) fun y hy => ?_
    rcases List.mem_append.mp hy with q | q
    · rcases List.mem_append.mp q with q | q
      · exact xd 2 y (cut_mem q)
      · simp only [List.mem_cons, List.not_mem_nil, or_false] at q
        rcases q with e | e <;> (subst e; exact xd 2 _ (List.getElem_mem _))
    · exact xd 2 y (cut_mem q)
  · rw [triF_nx, aft_nx]
    exact rest _ (by simp) fun y hy => by
      simp only [List.mem_cons, List.not_mem_nil, or_false] at hy
      rcases hy with e | e <;> (subst e; exact int_dat _ _)
end
end Hd
set_option Elab.async false
set_option linter.all false
set_option maxRecDepth 100000
set_option maxHeartbeats 4000000
set_option Elab.async false
set_option linter.all false
set_option maxRecDepth 100000
set_option maxHeartbeats 4000000
namespace Hd
open PySem PySem.Spec PyProof.Rows L2 Den
section
variable {m : SM} {P : D → SM → Prop}
def rankE (d : D) : PyData := .tuple [.int ((intsOf d).length : Nat), .tuple ((intsOf d).map .int)]
theorem pys_ints : ∀ ks : List Int, D.pys (ks.map .int) = some (ks.map .int)
  | [] => by simp [D.pys]
  | k :: ks => by rw [List.map_cons, D.pys, pys_ints ks, D.py]; rfl
theorem lay_ints : ∀ ks : List Int, PyData.canLayAll0 (ks.map .int) = true ∧ PyData.depthAll (ks.map .int) = 0
  | [] => by simp [PyData.canLayAll0, PyData.depthAll]
  | k :: ks => by
    obtain ⟨h1, h2⟩ := lay_ints ks
    simp [PyData.canLayAll0, PyData.depthAll, PyData.canLay0, PyData.depth, h1, h2]
theorem rank_shaped (d : D) : SeqAt.shaped (rankE d) = true := by
  obtain ⟨h1, h2⟩ := lay_ints (intsOf d)
  unfold SeqAt.shaped rankE
  simp [PyData.canLay0, PyData.canLayAll0, PyData.depth, PyData.depthAll, h1, h2]
theorem rank_alike (d e : D) : PySem.W.alike (rankE d) (rankE e) = true := by
  unfold rankE
  simp [PySem.W.alike, PySem.W.alikeAll, PySem.W.alike_ints]
end
end Hd
set_option Elab.async false
set_option linter.all false
set_option maxRecDepth 100000
set_option maxHeartbeats 4000000
namespace Hd
open PySem PySem.Spec PyProof.Rows L2 Den
section
variable {m : SM} {P : D → SM → Prop}
theorem run_tri {α : Type} {x : M α} {m m' : SM} {a : α} {Q : α → SM → Prop} (h : x m = .ok a m') (q : Q a m') : Tri x m Q := by
  unfold Tri
  rw [h]
  exact q
theorem slL {F : EV → M D} {A B : EV → M (Option Int)} {lo hi : Option Int} {xs : List D} {ρ : EV} {Q : List D → SM → Prop} (hF : Tri (F ρ) m fun d m' => d = .lst xs ∧ m' = m) (h1 : A ρ m = .ok lo m) (h2 : B ρ m = .ok hi m) (hP : Q (Den.cutD xs lo hi) m) : Tri (gSlice F A B ρ) m Q := by
  rw [tri_slice]
  refine hF.mono fun d m' ⟨e1, e2⟩ => ?_
  subst e1 e2
  refine run_tri h1 (run_tri h2 ?_)
  unfold Tri
  exact hP
end
end Hd
set_option Elab.async false
set_option linter.all false
set_option maxRecDepth 100000
set_option maxHeartbeats 4000000
namespace Den
open PySem PySem.Spec PyProof.Rows L2
theorem iff_at {α : Type} {x : M α} {m : SM} {v : α} (h : ∀ P : α → SM → Prop, P v m → Tri x m P) {P : α → SM → Prop} : Tri x m P ↔ P v m := by
  have e : x m = .ok v m := by
    obtain ⟨b, m', h1, h2, h3⟩ := (h (fun b m' => b = v ∧ m' = m) ⟨rfl, rfl⟩).run
    rw [h1, h2, h3]
  constructor
  · intro q
    obtain ⟨b, m', h1, h2⟩ := q.run
    rw [e] at h1
    cases h1
    exact h2
  · exact h P
theorem le_lim {n : Nat} {q : Prop} (h : n ≤ 100000) : (n ≤ 16777216 ∧ q) ↔ q := ⟨fun z => z.2, fun z => ⟨by omega, z⟩⟩
theorem tri_rangeN {n : Nat} {m : SM} {P : List D → SM → Prop} (h : n ≤ 100000) : Tri (dRange [.int (n : Int)]) m P ↔ P ((List.range n).map fun i : Nat => D.int (i : Int)) m := by
  rw [tri_range, Int.toNat_natCast]
  exact ⟨fun z => z.2, fun z => ⟨by omega, z⟩⟩
theorem tri_gCallK {m : SM} {P : D → SM → Prop} {ρ : EV} {A Ak : EV → M (List D)} {g : List D → M D} {n k : Nat} {pl : List Nat} {cd : List D} : Tri (gCallK g A Ak n k pl cd ρ) m P ↔ Tri (A ρ) m fun ds m => Tri (Ak ρ) m fun es m => (ds.length = n ∧ es.length = k) ∧ Tri (g (pick pl (ds ++ (es ++ cd)))) m P := by
  unfold gCallK gArgs
  simp only [tri_bind, tri_need, tri_pure, Bool.and_eq_true, decide_eq_true_eq]
theorem tri_comp2 {m : SM} {P : List D → SM → Prop} {ρ : EV} {bnd bnd1 : D → EV → Option EV} {I J : EV → M (List D)} {C : EV → M Bool} {E : EV → M D} : Tri (comp2V bnd bnd1 I J C E ρ) m P ↔ Tri (I ρ) m fun ds m => ds.length ≤ 4000 ∧ Tri (comp2L bnd bnd1 J C E ρ ds) m P := by
  unfold comp2V
  simp only [tri_bind, tri_need, decide_eq_true_eq]
/-- each thing gives a list -/
theorem tri_comp2L {m : SM} {ρ : EV} {bnd bnd1 : D → EV → Option EV} {J : EV → M (List D)} {C : EV → M Bool} {E : EV → M D} (f : D → List D) : ∀ (ds : List D) {P : List D → SM → Prop}, (∀ d ∈ ds, ∃ ρ1, bnd d ρ = some ρ1 ∧ Tri (J ρ1) m fun es m' => m' = m ∧ es.length ≤ 4000 ∧ Tri (compL bnd1 C E ρ1 es) m fun ys m' => m' = m ∧ ys = f d) → P (ds.flatMap f) m → Tri (comp2L bnd bnd1 J C E ρ ds) m P
  | [], P, _, q => by rw [comp2L, tri_pure]; exact q
  | d :: ds, P, h, q => by
    obtain ⟨ρ1, h1, h2⟩ := h d (by simp)
    rw [comp2L]
    simp only [tri_bind, tri_bindE, tri_noErr, tri_need, decide_eq_true_eq, tri_pure]
    refine ⟨ρ1, h1, h2.mono fun es m' ⟨e1, e2, e3⟩ => ⟨e2, ?_⟩⟩
    subst e1
    refine e3.mono fun ys m2 ⟨e4, e5⟩ => ?_
    subst e4 e5
    refine tri_comp2L f ds (fun d hd => h d (by simp [hd])) ?_
    rw [List.flatMap_cons] at q
    exact q
theorem tri_sortSetL {m : SM} {P : List D → SM → Prop} {ns : List Int} (h1 : ns.length ≤ 1000) (h2 : (sset ns).length < 64) : Tri (dSortSet [.lst (ns.map .int)]) m P ↔ P ((sset ns).map .int) m := by
  have : ∀ ns : List Int, D.ints (ns.map .int) = some ns := fun ns => by
    induction ns with
    | nil => rfl
    | cons k ks ih => rw [List.map_cons, D.ints, ih]; rfl
  show Tri (dSSet1 (ns.map .int)) m P ↔ _
  unfold dSSet1
  rw [this ns]
  simp only [h1, h2, and_self, if_true]
  exact tri_pure
end Den
namespace Hd
open PySem PySem.Spec PyProof.Rows L2 Den
local macro_rules | `(tactic| simp_arith [$xs,*]) => `(tactic| try simp (disch := first | assumption | omega) only [tri_runF, triF_seq, triF_nx, triF_rt, triF_ret, triF_if, triF_asg, triF_exp, aft_nx, aft_rt, fin_rt, fin_nx, tri_fC, tri_gVar, tri_f2, tri_f1, tri_fL, tri_aN, tri_aC, tri_fTup, tri_lDis, tri_fNew, tri_fNot, tri_fAnd, tri_fOr, tri_fIf, tri_tT, tri_t2, tri_tYes, tri_tNo, tri_tAnd, tri_tOr, tri_asB, tri_truB, tri_truI, tri_truL, tri_truT, tri_truN, tri_add, tri_sub, tri_lt, tri_le, tri_gt, tri_ge, tri_int, tri_eqI, tri_neI, tri_iSeq, tri_itsL, tri_itsT, tri_iRan, tri_rangeN, tri_comp, tri_comp2, tri_gProp, tri_gFld, tri_gIsi, tri_lG, tri_iG, tri_enum, tri_tupL, tri_tupT, tri_gCallK, le_lim,
  vw, allM, Sl.see, List.map_cons, List.map_nil, List.getElem?_cons_zero, List.getElem?_cons_succ, List.set_cons_zero, List.set_cons_succ, Option.some.injEq, exists_eq_left', List.length_cons, List.length_nil, List.length_map, List.length_range, List.cons_append, List.nil_append, List.append_nil, List.replicate_succ, List.replicate_zero, Nat.reduceSub, Nat.reduceAdd, Nat.reduceEqDiff, Nat.reduceLeDiff, List.isEmpty_nil, Bool.true_or, Bool.not_true, Bool.not_false, true_and, and_true, and_self, if_true, if_false, Bool.false_eq_true, reduceIte, $xs,*])
section
variable {m : SM} {P : D → SM → Prop} {n w : Nat} {d : D} {a : List (List Bool)}
theorem width_iff : Tri (den_Table_width [tabD w a]) m P ↔ P (.int (w : Nat)) m := iff_at fun P h => width_of_at h
theorem isTab : Den.isObj "Table" (tabD w a) = true := rfl
theorem row_lots_iff (hA : Rect w a) : Tri (den_Table_row_lots [tabD w a]) m P ↔ P (.lst (a.map (lotR w))) m := iff_at fun P h => row_lots_at hA h
theorem chk_iff (hw : w ≤ 6) (h : datB n d = true) (hl : lotB w d = true) : Tri (den_check_lot [d, .int (w : Nat)]) m P ↔ P .non m := iff_at fun P q => chk_ok hw h hl q
end
end Hd
set_option Elab.async false
set_option linter.all false
set_option maxRecDepth 100000
set_option maxHeartbeats 4000000
namespace Hd
open PySem PySem.Spec PyProof.Rows L2 Den
def lot (p : Nat → Bool) : List Nat := (List.range 6).filter p
def lotI (p : Nat → Bool) : List Int := (lot p).map fun i : Nat => (i : Int)
def lotS (p : Nat → Bool) : D := .tup ((lotI p).map .int)
theorem lotS_nats (p : Nat → Bool) : lotS p = natsD (lot p) := by unfold lotS lotI natsD; rw [List.map_map]; rfl
theorem lot_mem {p : Nat → Bool} {k : Nat} : k ∈ lot p ↔ k < 6 ∧ p k = true := by unfold lot; rw [List.mem_filter, List.mem_range]
theorem lot_ext {p q : Nat → Bool} (h : ∀ k, k < 6 → p k = q k) : lot p = lot q := by
  unfold lot
  exact List.filter_congr fun k hk => h k (List.mem_range.mp hk)
theorem lotS_ext {p q : Nat → Bool} (h : ∀ k, k < 6 → p k = q k) : lotS p = lotS q := by unfold lotS lotI; rw [lot_ext h]
theorem lotI_mem {p : Nat → Bool} {k : Int} : k ∈ lotI p ↔ ∃ i : Nat, i < 6 ∧ p i = true ∧ k = i := by
  unfold lotI
  simp only [List.mem_map, lot_mem]
  exact ⟨fun ⟨i, ⟨a, b⟩, c⟩ => ⟨i, a, b, c.symm⟩, fun ⟨i, a, b, c⟩ => ⟨i, ⟨a, b⟩, c.symm⟩⟩
theorem lotI_memN {p : Nat → Bool} {k : Nat} : (k : Int) ∈ lotI p ↔ k < 6 ∧ p k = true := by
  rw [lotI_mem]
  constructor
  · rintro ⟨i, a, b, c⟩
    have : k = i := by omega
    subst this
    exact ⟨a, b⟩
  · rintro ⟨a, b⟩
    exact ⟨k, a, b, rfl⟩
theorem lot_len (p : Nat → Bool) : (lot p).length ≤ 6 := by
  unfold lot
  exact Nat.le_trans (List.length_filter_le _ _) (by simp)
theorem lotI_len (p : Nat → Bool) : (lotI p).length ≤ 6 := by unfold lotI; rw [List.length_map]; exact lot_len p
theorem lotI_ris (p : Nat → Bool) : (lotI p).Pairwise (· < ·) := by
  unfold lotI lot
  refine List.pairwise_map.mpr ((List.Pairwise.filter _ List.pairwise_lt_range).imp fun h => ?_)
  omega
theorem lotI_of {l : List Int} {p : Nat → Bool} (hs : l.Pairwise (· < ·)) (h : ∀ k, k ∈ l ↔ ∃ i : Nat, i < 6 ∧ p i = true ∧ k = i) : l = lotI p := ris_uniq hs (lotI_ris p) fun k => by rw [h k, lotI_mem]
theorem lotR_S {w : Nat} (hw : w ≤ 6) (r : List Bool) : lotR w r = lotS fun i => decide (i < w) && r.getD i false := by
  unfold lotR lotS
  congr 2
  refine lotI_of ?_ fun k => ?_
  · unfold lotN
    exact List.pairwise_map.mpr ((List.Pairwise.filter _ List.pairwise_lt_range).imp fun h => by omega)
  · rw [lotN_mem]
    constructor
    · rintro ⟨i, a, b, c⟩
      exact ⟨i, by omega, by simp [a, b]; simpa using b, c⟩
    · rintro ⟨i, a, b, c⟩
      rw [Bool.and_eq_true, decide_eq_true_eq] at b
      exact ⟨i, b.1, b.2, c⟩
theorem lotS_ints (p : Nat → Bool) : intsOf (lotS p) = lotI p := intsOf_tup _
theorem asc_lot : ∀ {l : List Int} {b w : Int}, ascB w b (l.map .int) = true → l.Pairwise (· < ·) ∧ ∀ k ∈ l, b ≤ k ∧ k < w
  | [], b, w, _ => ⟨.nil, by simp⟩
  | k :: l, b, w, h => by
    rw [List.map_cons, ascB, Bool.and_eq_true, Bool.and_eq_true, decide_eq_true_iff, decide_eq_true_iff] at h
    obtain ⟨h1, h2, h3⟩ := h
    obtain ⟨a, c⟩ := asc_lot h3
    refine ⟨List.pairwise_cons.mpr ⟨fun y hy => ?_, a⟩, fun y hy => ?_⟩
    · have := (c y hy).1; omega
    · rcases List.mem_cons.mp hy with e | hy
      · subst e; exact ⟨h1, h2⟩
      · have := c y hy; omega
/-- a lot below w, as a set -/
theorem lotB_S {w : Nat} {d : D} (hw : w ≤ 6) (h : lotB w d = true) : ∃ p : Nat → Bool, d = lotS p ∧ ∀ k, p k = true → k < w := by
  obtain ⟨ks, e, _⟩ := lotB_ex h
  subst e
  obtain ⟨a, b⟩ := asc_lot (show ascB w 0 (ks.map .int) = true from h)
  refine ⟨fun i => decide ((i : Int) ∈ ks), ?_, fun k hk => ?_⟩
  · unfold lotS
    congr 2
    refine lotI_of a fun k => ⟨fun hk => ?_, ?_⟩
    · have := b k hk
      refine ⟨k.toNat, by omega, ?_, by omega⟩
      rw [decide_eq_true_eq, show ((k.toNat : Nat) : Int) = k by omega]
      exact hk
    · rintro ⟨i, _, h2, e⟩
      rw [decide_eq_true_eq] at h2
      rw [e]; exact h2
  · have := b _ (of_decide_eq_true hk)
    omega
theorem lotS_B {w : Nat} {p : Nat → Bool} (h : ∀ k, k < 6 → p k = true → k < w) : lotB w (lotS p) = true := by
  show ascB w ((0 : Nat) : Int) ((lotI p).map .int) = true
  unfold lotI lot
  exact asc_nats (List.Pairwise.filter _ List.pairwise_lt_range) fun i hi => by
    obtain ⟨h1, h2⟩ := List.mem_filter.mp hi
    exact ⟨Nat.zero_le i, h i (List.mem_range.mp h1) h2⟩
theorem lotS_dat (p : Nat → Bool) : datB 1 (lotS p) = true := by
  unfold lotS
  refine datB_tup.mpr ⟨?_, fun x hx => ?_⟩
  · rw [List.length_map]; exact Nat.le_trans (lotI_len p) (by omega)
  · obtain ⟨k, _, e⟩ := List.mem_map.mp hx
    rw [← e]; rfl
section
variable {m : SM} {P : D → SM → Prop} {ρ : EV}
theorem in_S {p : Nat → Bool} {k : Nat} (hk : k < 6) : Tri (dIn (.int (k : Nat)) (lotS p)) m P ↔ P (.bl (p k)) m := by
  unfold lotS
  rw [tri_inT]
  have : decide ((k : Int) ∈ lotI p) = p k := by
    rw [Bool.eq_iff_iff, decide_eq_true_eq, lotI_memN]
    exact ⟨fun z => z.2, fun z => ⟨hk, z⟩⟩
  rw [this]
theorem its_S {p : Nat → Bool} {P : List D → SM → Prop} : Tri (dIts (lotS p)) m P ↔ P ((lot p).map fun i : Nat => D.int (i : Int)) m := by
  unfold lotS
  rw [tri_itsT]
  unfold lotI
  rw [List.map_map]
  rfl
/-- [E for x in map φ xs] -/
theorem tri_compMap {α : Type} {bnd : D → EV → Option EV} {E : EV → M D} {φ : α → D} {ψ : α → D} {P : List D → SM → Prop} {xs : List α} (h : ∀ x ∈ xs, ∃ ρ1, bnd (φ x) ρ = some ρ1 ∧ ∀ Q : D → SM → Prop, Q (ψ x) m → Tri (E ρ1) m Q) : Tri (compL bnd tYes E ρ (xs.map φ)) m P ↔ P (xs.map ψ) m := iff_at (x := compL bnd tYes E ρ (xs.map φ)) fun P hP => by
  induction xs generalizing P with
  | nil => rw [List.map_nil, compL, tri_pure]; exact hP
  | cons x xs ih =>
    obtain ⟨ρ1, h1, h2⟩ := h x (by simp)
    rw [List.map_cons, tri_compL_cons]
    refine ⟨ρ1, h1, ?_⟩
    rw [tri_tYes, if_pos rfl]
    exact h2 _ (ih (fun y hy => h y (by simp [hy])) _ (by rw [List.map_cons] at hP; exact hP))
/-- [E for x in map φ xs if p] -/
theorem tri_compFil {α : Type} {bnd : D → EV → Option EV} {C : EV → M Bool} {E : EV → M D} {φ : α → D} {ψ : α → D} {p : α → Bool} {P : List D → SM → Prop} {xs : List α}
    (h : ∀ x ∈ xs, ∃ ρ1, bnd (φ x) ρ = some ρ1 ∧ (∀ Q : Bool → SM → Prop, Q (p x) m → Tri (C ρ1) m Q) ∧ ∀ Q : D → SM → Prop, p x = true → Q (ψ x) m → Tri (E ρ1) m Q) : Tri (compL bnd C E ρ (xs.map φ)) m P ↔ P ((xs.filter p).map ψ) m := iff_at (x := compL bnd C E ρ (xs.map φ)) fun P hP => by
  induction xs generalizing P with
  | nil => rw [List.map_nil, compL, tri_pure]; exact hP
  | cons x xs ih =>
    obtain ⟨ρ1, h1, h2, h3⟩ := h x (by simp)
    have ih' := ih fun y hy => h y (by simp [hy])
    rw [List.map_cons, tri_compL_cons]
    refine ⟨ρ1, h1, h2 _ ?_⟩
    by_cases hp : p x = true
    · rw [if_pos hp]
      refine h3 _ hp (ih' _ ?_)
      rw [List.filter_cons, if_pos hp, List.map_cons] at hP
      exact hP
    · rw [if_neg hp]
      refine ih' _ ?_
      rw [List.filter_cons, if_neg hp] at hP
      exact hP
end
end Hd
set_option Elab.async false
set_option linter.all false
set_option maxRecDepth 100000
set_option maxHeartbeats 4000000
namespace Hd
open PySem PySem.Spec PyProof.Rows L2 Den
local macro_rules | `(tactic| simp_arith [$xs,*]) => `(tactic| try simp (disch := first | assumption | omega) only [tri_runF, triF_seq, triF_nx, triF_rt, triF_ret, triF_if, triF_asg, triF_exp, aft_nx, aft_rt, fin_rt, fin_nx, tri_fC, tri_gVar, tri_f2, tri_f1, tri_fL, tri_aN, tri_aC, tri_fTup, tri_lDis, tri_fNew, tri_fNot, tri_fAnd, tri_fOr, tri_fIf, tri_tT, tri_t2, tri_tYes, tri_tNo, tri_tAnd, tri_tOr, tri_asB, tri_truB, tri_truI, tri_truL, tri_truT, tri_truN, tri_add, tri_sub, tri_lt, tri_le, tri_gt, tri_ge, tri_int, tri_eqI, tri_neI, tri_iSeq, tri_itsL, tri_itsT, tri_iRan, tri_rangeN, tri_comp, tri_comp2, tri_gProp, tri_gFld, tri_gIsi, tri_lG, tri_iG, tri_enum, tri_tupL, tri_tupT, tri_gCallK, le_lim,
  vw, allM, Sl.see, List.map_cons, List.map_nil, List.getElem?_cons_zero, List.getElem?_cons_succ, List.set_cons_zero, List.set_cons_succ, Option.some.injEq, exists_eq_left', List.length_cons, List.length_nil, List.length_map, List.length_range, List.cons_append, List.nil_append, List.append_nil, List.replicate_succ, List.replicate_zero, Nat.reduceSub, Nat.reduceAdd, Nat.reduceEqDiff, Nat.reduceLeDiff, List.isEmpty_nil, Bool.true_or, Bool.not_true, Bool.not_false, true_and, and_true, and_self, if_true, if_false, Bool.false_eq_true, reduceIte, $xs,*])
section
variable {m : SM} {P : D → SM → Prop} {w : Nat} {a : List (List Bool)}
theorem num_iff {k n : Nat} (h : k < n) : Tri (den_is_number [.int (k : Nat), .int (n : Nat)]) m P ↔ P (.bl true) m := iff_at fun P q => number_at (by omega) (by omega) q
theorem num6_iff {k : Nat} (h : k < 6) : Tri (den_is_number [.int (k : Nat), .int 6]) m P ↔ P (.bl true) m := num_iff (n := 6) h
theorem cknum_iff {i n : Int} (h0 : 0 ≤ i) (h : i < n) : Tri (den_check_number [.int i, .int n]) m P ↔ P .non m := iff_at fun P q => by
  have e : ∀ Q : D → SM → Prop, Tri (den_is_number [.int i, .int n]) m Q ↔ Q (.bl true) m := fun Q => iff_at fun P q => number_at h0 h q
  unfold den_check_number
  simp_arith [e]
  exact q
theorem ints_list (xs : List Nat) : (xs.map fun i : Nat => D.int (i : Int)) = (xs.map fun i : Nat => (i : Int)).map .int := by rw [List.map_map]; rfl
theorem sset_lot {xs : List Nat} (h : ∀ k ∈ xs, k < 6) : sset (xs.map fun i : Nat => (i : Int)) = lotI fun k => decide (k ∈ xs) := lotI_of sset_ris fun k => by
  rw [sset_mem, List.mem_map]
  constructor
  · rintro ⟨i, hi, e⟩
    exact ⟨i, h i hi, by simp [hi], e.symm⟩
  · rintro ⟨i, _, h2, e⟩
    exact ⟨i, of_decide_eq_true h2, e.symm⟩
theorem sortset_iff {xs : List Nat} {P : List D → SM → Prop} (hl : xs.length ≤ 1000) (h : ∀ k ∈ xs, k < 6) : Tri (dSortSet [.lst (xs.map fun i : Nat => D.int (i : Int))]) m P ↔ P ((lotI fun k => decide (k ∈ xs)).map .int) m := by
  rw [ints_list, tri_sortSetL (by rw [List.length_map]; exact hl) (by rw [sset_lot h]; have := lotI_len fun k => decide (k ∈ xs); omega), sset_lot h]
theorem allB {α : Type} {xs : List α} : ((xs.map fun _ => D.bl true)) = (xs.map fun _ => true).map .bl := by rw [List.map_map]; rfl
theorem allT {α : Type} (xs : List α) : (xs.map fun _ => true).all id = true := by simp
theorem lot_of_iff {xs : List Nat} (hl : xs.length ≤ 1000) (h : ∀ k ∈ xs, k < 6) : Tri (den_lot_of [.lst (xs.map fun i : Nat => D.int (i : Int)), .int 6]) m P ↔ P (lotS fun k => decide (k ∈ xs)) m := by
  unfold den_lot_of
  simp_arith [cknum_iff (i := 6) (n := 6 + 1) (by omega) (by omega)]
  have hp : (D.lst (xs.map fun i : Nat => D.int (i : Int))).plainOr none = true := rfl
  have hc : ([Cl.ty "list", Cl.ty "tuple"].any (isCl (D.lst (xs.map fun i : Nat => D.int (i : Int))))) = true := rfl
  simp_arith [hp, hc]
  rw [tri_compMap (ψ := fun _ => D.bl true) fun k hk => ⟨_, rfl, fun Q q => by simp_arith [num6_iff (h k hk)]; exact q⟩]
  rw [allB, tri_all, allT]
  simp_arith [sortset_iff hl h]
  rfl
theorem join_all_iff {ps : List (Nat → Bool)} (hl : ps.length ≤ 150) : Tri (den_join_all [.lst (ps.map lotS)]) m P ↔ P (lotS fun k => ps.any fun p => p k) m := iff_at fun P q => by
  unfold den_join_all
  simp_arith []
  refine ⟨by omega, ?_⟩
  have fl : (ps.map lotS).flatMap (fun d => (intsOf d).map D.int) = (ps.flatMap lot).map fun i : Nat => D.int (i : Int) := by
    rw [List.flatMap_map, List.map_flatMap]
    congr 1
    funext p
    rw [lotS_ints]
    unfold lotI
    rw [List.map_map]; rfl
  refine tri_comp2L (fun d => (intsOf d).map D.int) _ (fun d hd => ?_) ?_
  · obtain ⟨p, _, e⟩ := List.mem_map.mp hd
    subst e
    refine ⟨_, rfl, ?_⟩
    simp_arith [its_S, wipeE]
    have := lot_len p
    refine ⟨by omega, ?_⟩
    rw [tri_compMap (ψ := fun i : Nat => D.int (i : Int)) fun k hk => ⟨_, rfl, fun Q q => by simp_arith []; exact q⟩]
    refine ⟨by trivial, ?_⟩
    rw [lotS_ints]
    unfold lotI
    rw [List.map_map]; rfl
  · rw [fl]
    have len : ∀ ps : List (Nat → Bool), (ps.flatMap lot).length ≤ 6 * ps.length := fun ps => by
      induction ps with
      | nil => simp
      | cons p ps ih => rw [List.flatMap_cons, List.length_append, List.length_cons]; have := lot_len p; omega
    have lt : ∀ k ∈ ps.flatMap lot, k < 6 := fun k hk => by
      obtain ⟨p, _, h⟩ := List.mem_flatMap.mp hk
      exact (lot_mem.mp h).1
    show Tri (den_lot_of [_, .int 6]) m _
    rw [lot_of_iff (by have := len ps; omega) lt]
    rw [lotS_ext (q := fun k => ps.any fun p => p k) fun k hk => ?_]
    · exact q
    · rw [Bool.eq_iff_iff, decide_eq_true_eq, List.mem_flatMap, List.any_eq_true]
      exact ⟨fun ⟨p, a, b⟩ => ⟨p, a, (lot_mem.mp b).2⟩, fun ⟨p, a, b⟩ => ⟨p, a, lot_mem.mpr ⟨hk, b⟩⟩⟩
end
end Hd
set_option Elab.async false
set_option linter.all false
set_option maxRecDepth 100000
set_option maxHeartbeats 4000000
namespace Hd
open PySem PySem.Spec PyProof.Rows L2 Den
local macro_rules | `(tactic| simp_arith [$xs,*]) => `(tactic| try simp (disch := first | assumption | omega) only [tri_runF, triF_seq, triF_nx, triF_rt, triF_ret, triF_if, triF_asg, triF_exp, aft_nx, aft_rt, fin_rt, fin_nx, tri_fC, tri_gVar, tri_f2, tri_f1, tri_fL, tri_aN, tri_aC, tri_fTup, tri_lDis, tri_fNew, tri_fNot, tri_fAnd, tri_fOr, tri_fIf, tri_tT, tri_t2, tri_tYes, tri_tNo, tri_tAnd, tri_tOr, tri_asB, tri_truB, tri_truI, tri_truL, tri_truT, tri_truN, tri_add, tri_sub, tri_lt, tri_le, tri_gt, tri_ge, tri_int, tri_eqI, tri_neI, tri_iSeq, tri_itsL, tri_itsT, tri_iRan, tri_rangeN, tri_comp, tri_comp2, tri_gProp, tri_gFld, tri_gIsi, tri_lG, tri_iG, tri_enum, tri_tupL, tri_tupT, tri_gCallK, le_lim,
  vw, allM, Sl.see, List.map_cons, List.map_nil, List.getElem?_cons_zero, List.getElem?_cons_succ, List.set_cons_zero, List.set_cons_succ, Option.some.injEq, exists_eq_left', List.length_cons, List.length_nil, List.length_map, List.length_range, List.cons_append, List.nil_append, List.append_nil, List.replicate_succ, List.replicate_zero, Nat.reduceSub, Nat.reduceAdd, Nat.reduceEqDiff, Nat.reduceLeDiff, List.isEmpty_nil, Bool.true_or, Bool.not_true, Bool.not_false, true_and, and_true, and_self, if_true, if_false, Bool.false_eq_true, reduceIte, $xs,*])
def lotLt (a b : List Int) : Prop := a.length < b.length ∨ (a.length = b.length ∧ a < b)
instance (a b : List Int) : Decidable (lotLt a b) := by unfold lotLt; infer_instance
theorem lotLt_irr (a : List Int) : ¬ lotLt a a := fun h => by
  rcases h with h | ⟨_, h⟩
  · omega
  · exact List.lt_irrefl a h
theorem lotLt_trans {a b c : List Int} (h : lotLt a b) (k : lotLt b c) : lotLt a c := by
  rcases h with h | ⟨e, h⟩ <;> rcases k with k | ⟨f, k⟩
  · exact .inl (by omega)
  · exact .inl (by omega)
  · exact .inl (by omega)
  · exact .inr ⟨by omega, List.lt_trans h k⟩
theorem lotLt_tri (a b : List Int) : lotLt a b ∨ a = b ∨ lotLt b a := by
  by_cases h : a.length < b.length
  · exact .inl (.inl h)
  by_cases k : b.length < a.length
  · exact .inr (.inr (.inl k))
  have e : a.length = b.length := by omega
  by_cases x : a < b
  · exact .inl (.inr ⟨e, x⟩)
  by_cases y : b < a
  · exact .inr (.inr (.inr ⟨e.symm, y⟩))
  · exact .inr (.inl (List.le_antisymm (List.not_lt.mp y) (List.not_lt.mp x)))
/-- strictly in order -/
def RisL (l : List (List Int)) : Prop := l.Pairwise lotLt
theorem risL_uniq : ∀ {a b : List (List Int)}, RisL a → RisL b → (∀ k, k ∈ a ↔ k ∈ b) → a = b
  | [], [], _, _, _ => rfl
  | [], y :: b, _, _, h => absurd ((h y).mpr (by simp)) (by simp)
  | x :: a, [], _, _, h => absurd ((h x).mp (by simp)) (by simp)
  | x :: a, y :: b, ha, hb, h => by
    obtain ⟨a1, a2⟩ := List.pairwise_cons.mp ha
    obtain ⟨b1, b2⟩ := List.pairwise_cons.mp hb
    have e : x = y := by
      rcases List.mem_cons.mp ((h x).mp (by simp)) with e | e
      · exact e
      · rcases List.mem_cons.mp ((h y).mpr (by simp)) with e2 | e2
        · exact e2.symm
        · exact absurd (lotLt_trans (b1 x e) (a1 y e2)) (lotLt_irr y)
    subst e
    rw [risL_uniq a2 b2 fun k => ?_]
    have hk := h k
    rw [List.mem_cons, List.mem_cons] at hk
    constructor
    · intro q
      rcases hk.mp (.inr q) with e | e
      · subst e; exact absurd (a1 k q) (lotLt_irr k)
      · exact e
    · intro q
      rcases hk.mpr (.inr q) with e | e
      · subst e; exact absurd (b1 k q) (lotLt_irr k)
      · exact e
def insL (k : List Int) : List (List Int) → List (List Int)
  | [] => [k]
  | x :: r => if lotLt k x then k :: x :: r else if k = x then x :: r else x :: insL k r
def lsort : List (List Int) → List (List Int)
  | [] => []
  | k :: ks => insL k (lsort ks)
theorem insL_mem {k j : List Int} : ∀ {l : List (List Int)}, j ∈ insL k l ↔ j = k ∨ j ∈ l
  | [] => by simp [insL]
  | x :: r => by
    unfold insL
    split
    · simp
    · split
      · rename_i h1 h2
        subst h2
        simp
      · rw [List.mem_cons, insL_mem, List.mem_cons]
        constructor
        · rintro (h | h | h) <;> simp [h]
        · rintro (h | h | h) <;> simp [h]
theorem insL_ris {k : List Int} : ∀ {l : List (List Int)}, RisL l → RisL (insL k l)
  | [], _ => by simp [insL, RisL]
  | x :: r, h => by
    obtain ⟨h1, h2⟩ := List.pairwise_cons.mp h
    unfold insL
    split
    · rename_i hk
      refine List.pairwise_cons.mpr ⟨fun y hy => ?_, h⟩
      rcases List.mem_cons.mp hy with e | hy
      · rw [e]; exact hk
      · exact lotLt_trans hk (h1 y hy)
    · split
      · exact h
      · rename_i a b
        refine List.pairwise_cons.mpr ⟨fun y hy => ?_, insL_ris h2⟩
        rcases insL_mem.mp hy with e | hy
        · rw [e]
          rcases lotLt_tri k x with q | q | q
          · exact absurd q a
          · exact absurd q b
          · exact q
        · exact h1 y hy
theorem lsort_mem {j : List Int} : ∀ {l : List (List Int)}, j ∈ lsort l ↔ j ∈ l
  | [] => by simp [lsort]
  | k :: ks => by rw [lsort, insL_mem, lsort_mem, List.mem_cons]
theorem lsort_ris : ∀ {l : List (List Int)}, RisL (lsort l)
  | [] => by simp [lsort, RisL]
  | k :: ks => by rw [lsort]; exact insL_ris lsort_ris
theorem lsort_of {a l : List (List Int)} (h : RisL a) (m : ∀ k, k ∈ a ↔ k ∈ l) : a = lsort l := risL_uniq h lsort_ris fun k => (m k).trans lsort_mem.symm
theorem insL_len {k : List Int} : ∀ {l : List (List Int)}, (insL k l).length ≤ l.length + 1
  | [] => by simp [insL]
  | x :: r => by
    have := insL_len (k := k) (l := r)
    unfold insL
    split
    · simp
    · split
      · simp
      · simp; omega
theorem lsort_len : ∀ {l : List (List Int)}, (lsort l).length ≤ l.length
  | [] => by simp [lsort]
  | k :: ks => by
    have := lsort_len (l := ks)
    have := insL_len (k := k) (l := lsort ks)
    rw [lsort, List.length_cons]; omega
abbrev tupI (ks : List Int) : D := .tup (ks.map .int)
def rkI (ks : List Int) : D := .tup [.int (ks.length : Nat), tupI ks]
def rkE (ks : List Int) : PyData := .tuple [.int (ks.length : Nat), .tuple (ks.map .int)]
theorem rkE_eq (ks : List Int) : rankE (tupI ks) = rkE ks := by unfold rankE rkE; rw [intsOf_tup]
theorem eqv_ints : ∀ a b : List Int, PyData.eqvAll (a.map .int) (b.map .int) = decide (a = b)
  | [], [] => rfl
  | [], y :: b => rfl
  | x :: a, [] => rfl
  | x :: a, y :: b => by
    rw [List.map_cons, List.map_cons, PyData.eqvAll, eqv_ints a b, PyData.eqv]
    by_cases h1 : x = y <;> by_cases h2 : a = b <;> simp [h1, h2]
theorem rk_lt (a b : List Int) : PySem.W.dataLt (rkE a) (rkE b) = decide (lotLt a b) := by
  unfold rkE
  rw [PySem.W.dataLt_pair (by simp [PySem.W.alike]) (by simp [PySem.W.alike, PySem.W.alike_ints]), PySem.W.dataLt_int, PySem.W.dataLt_tuple]
  have e1 : PyData.eqv (.int (a.length : Nat)) (.int (b.length : Nat)) = decide (a.length = b.length) := by
    rw [PyData.eqv]
    by_cases h : a.length = b.length <;> simp [h] <;> omega
  have e2 : PyData.eqv (.tuple (a.map .int)) (.tuple (b.map .int)) = decide (a = b) := by rw [PyData.eqv]; exact eqv_ints a b
  have e3 := PySem.W.dataLt_ints a b
  unfold PySem.W.rowLt at e3
  rw [e1, e2, e3]
  unfold lotLt
  by_cases h : a.length = b.length
  · by_cases h2 : a = b
    · subst h2; simp [List.lt_irrefl]
    · simp [h, h2]
  · simp [h]
theorem rk_shaped (a : List Int) : SeqAt.shaped (rkE a) = true := by rw [← rkE_eq]; exact rank_shaped _
theorem rk_alike (a b : List Int) : PySem.W.alike (rkE a) (rkE b) = true := by rw [← rkE_eq, ← rkE_eq]; exact rank_alike _ _
theorem rks_py (L : List (List Int)) : D.pys (L.map rkI) = some (L.map rkE) := by
  induction L with
  | nil => simp [D.pys]
  | cons k L ih =>
    rw [List.map_cons, D.pys, ih]
    have : (rkI k).py = some (rkE k) := by
      unfold rkI rkE
      rw [D.py, D.pys, D.pys, D.pys, D.py, D.py, pys_ints]
      rfl
    rw [this]; rfl
def leL (a b : List Int) : Bool := !decide (lotLt b a)
def msort (L : List (List Int)) : List (List Int) := L.mergeSort leL
theorem msort_mem {L : List (List Int)} {k : List Int} : k ∈ msort L ↔ k ∈ L := List.mem_mergeSort
theorem msort_pw (L : List (List Int)) : (msort L).Pairwise fun a b => ¬ lotLt b a := by
  have := List.pairwise_mergeSort (le := leL) (trans := fun a b c h1 h2 => by
    unfold leL at *
    simp only [Bool.not_eq_true', decide_eq_false_iff_not] at *
    intro h
    rcases lotLt_tri b c with q | q | q
    · exact h1 (lotLt_trans q h)
    · subst q; exact h1 h
    · exact h2 q) (total := fun a b => by
    unfold leL
    rcases lotLt_tri a b with q | q | q
    · have : ¬ lotLt b a := fun z => lotLt_irr a (lotLt_trans q z)
      simp [this]
    · subst q; simp [lotLt_irr]
    · have : ¬ lotLt a b := fun z => lotLt_irr a (lotLt_trans z q)
      simp [this]) L
  exact this.imp fun h => by
    unfold leL at h
    simpa using h
section
variable {m : SM} {P : D → SM → Prop}
theorem sorted_rk {L : List (List Int)} {Q : List D → SM → Prop} : Tri (dSorted [.lst (L.map rkI)]) m Q ↔ Q ((msort L).map rkI) m := by
  show Tri (dSortL (L.map rkI)) m Q ↔ _
  unfold dSortL
  rw [rks_py]
  have g : ((L.map rkE).all SeqAt.shaped && (alikeB (L.map rkE) && sortB (L.map rkE))) = true := by
    have g1 : (L.map rkE).all SeqAt.shaped = true := List.all_eq_true.mpr fun x hx => by
      obtain ⟨d, _, e⟩ := List.mem_map.mp hx
      rw [← e]; exact rk_shaped d
    have g2 : alikeB (L.map rkE) = true := List.all_eq_true.mpr fun x hx => List.all_eq_true.mpr fun y hy => by
      obtain ⟨d, _, e⟩ := List.mem_map.mp hx
      obtain ⟨d', _, e'⟩ := List.mem_map.mp hy
      rw [← e, ← e']; exact rk_alike d d'
    have g3 : sortB (L.map rkE) = true := by
      unfold sortB
      rw [Bool.or_eq_true]
      exact .inl (List.all_eq_true.mpr fun x hx => by
        obtain ⟨d, _, e⟩ := List.mem_map.mp hx
        rw [← e]; rfl)
    rw [g1, g2, g3]; rfl
  simp only [g, if_true]
  rw [tri_pure]
  have e : (((L.map rkI).zip (L.map rkE)).mergeSort leD).map (·.1) = (msort L).map rkI := by
    have z : (L.map rkI).zip (L.map rkE) = L.map fun k => (rkI k, rkE k) := by
      rw [List.zip_map']
    rw [z, ← List.map_mergeSort (r := leL) (s := leD) (f := fun k => (rkI k, rkE k)) (fun a _ b _ => by
      show leL a b = (!PySem.W.dataLt (rkE b) (rkE a))
      rw [rk_lt]; rfl), List.map_map]
    rfl
  rw [e]
theorem py_tup (a : List Int) : (tupI a).py = some (.tuple (a.map .int)) := by rw [D.py, pys_ints]; rfl
theorem shaped_tup (a : List Int) : SeqAt.shaped (.tuple (a.map .int)) = true := by
  obtain ⟨h1, h2⟩ := lay_ints a
  unfold SeqAt.shaped
  simp [PyData.canLay0, PyData.depth, h1, h2]
theorem eqB_tup (a b : List Int) : dEqB (tupI a) (tupI b) = some (decide (a = b)) := by
  unfold dEqB
  rw [py_tup, py_tup]
  simp only [shaped_tup, Bool.and_self, if_true]
  rw [PyData.eqv]
  exact congrArg some (eqv_ints a b)
theorem ne_tup {a b : List Int} : Tri (dNe (tupI a) (tupI b)) m P ↔ P (.bl (!decide (a = b))) m := by
  unfold dNe
  rw [eqB_tup, tri_pure]
theorem tup_len {a : List Int} : Tri (dLen [tupI a]) m P ↔ P (.int (a.length : Nat)) m := by
  rw [tri_len]
  have : dLen1 (tupI a) = some ((a.length : Nat) : Int) := by simp [dLen1]
  rw [this]
  simp
theorem lst_len {xs : List D} : Tri (dLen [.lst xs]) m P ↔ P (.int (xs.length : Nat)) m := by
  rw [tri_len]
  show (∃ n, some (xs.length : Int) = some n ∧ _) ↔ _
  simp
theorem last_ix {xs : List D} {x : D} : Tri (dIx (.lst (xs ++ [x])) (.int (-1))) m P ↔ P x m := by
  rw [tri_ixL]
  have : atI (xs ++ [x]) (-1) = some x := by
    simp [atI, ixN]
    rw [if_pos (by omega), show ((-1 : Int) + (xs.length + 1)).toNat = xs.length by omega]
    simp
  rw [this]
  simp
theorem rk_ix1 {a : List Int} : Tri (dIx (rkI a) (.int 1)) m P ↔ P (tupI a) m := by
  unfold rkI
  rw [tri_ixT]
  exact ⟨fun ⟨d, h1, h2⟩ => by cases h1; exact h2, fun h => ⟨_, rfl, h⟩⟩
theorem neg1 : Tri (dNeg (.int 1)) m P ↔ P (.int (-1)) m := by
  show Tri (pure (.int (-1)) : M D) m P ↔ _
  rw [tri_pure]
theorem ranked_iff {L : List (List Int)} (hl : L.length ≤ 100000) : Tri (den__law_ranked [.lst (L.map tupI)]) m P ↔ P (.lst ((lsort L).map tupI)) m := iff_at fun P q => by
  unfold den__law_ranked
  rw [tri_runF]
  refine ⟨rfl, ?_⟩
  rw [triF_seq, triF_new]
  simp_arith []
  refine ⟨rfl, ?_⟩
  rw [triF_for]
  simp_arith []
  rw [tri_compMap (ψ := rkI) fun k hk => ⟨_, rfl, fun Q q => by
    simp_arith [tup_len]
    exact q⟩, sorted_rk]
  refine triF_loop (fun j ρ m' => m' = m ∧ ∃ os s2 s3, ρ = [.va (.lst (L.map tupI)), .ow (os.map tupI), s2, s3] ∧ os.length ≤ j ∧ RisL os ∧ (∀ k, k ∈ os ↔ k ∈ (msort L).take j) ∧ ∀ x ∈ os, ∀ y ∈ (msort L).drop j, ¬ lotLt y x) _ 0 _ m ⟨rfl, [], .no, .no, rfl, by simp, .nil, by simp, by simp⟩ (fun j d ρ m' hd hI => ?_) (fun ρ m' hI => ?_)
  · obtain ⟨em, os, s2, s3, eρ, h1, h2, h3, h4⟩ := hI
    subst em eρ
    rw [Nat.zero_add] at h1 h3 h4 ⊢
    rw [List.getElem?_map] at hd
    obtain ⟨x, hx, ex⟩ := Option.map_eq_some_iff.mp hd
    subst ex
    obtain ⟨hj, ej⟩ := List.getElem?_eq_some_iff.mp hx
    have hjL : j < L.length := by
      have : (msort L).length = L.length := by unfold msort; simp
      omega
    have hdr : (msort L).drop j = x :: (msort L).drop (j + 1) := by rw [← ej, List.drop_eq_getElem_cons hj]
    have htk : (msort L).take (j + 1) = (msort L).take j ++ [x] := by rw [List.take_add_one, hx]; rfl
    have hxx : ∀ y ∈ (msort L).drop (j + 1), ¬ lotLt y x := fun y hy => by
      have pw := (msort_pw L).drop (i := j)
      rw [hdr] at pw
      exact (List.pairwise_cons.mp pw).1 y hy
    refine ⟨_, rfl, ?_⟩
    show TriF (gIf _ _ _ [.va (.lst (L.map tupI)), .ow (os.map tupI), .va (rkI x), s3]) m' _
    have app : (∀ y ∈ os, lotLt y x) → ∀ (Q : Fl → SM → Prop), (∀ z, z = os ++ [x] → z.length ≤ j + 1 ∧ RisL z ∧ (∀ k, k ∈ z ↔ k ∈ (msort L).take (j + 1)) ∧ (∀ x ∈ z, ∀ y ∈ (msort L).drop (j + 1), ¬ lotLt y x) → Q (.nx [.va (.lst (L.map tupI)), .ow (z.map tupI), .va (rkI x), s3]) m') → TriF (gApp 1 [] (f2 dIx (gVar 2) (fC (.int 1))) [.va (.lst (L.map tupI)), .ow (os.map tupI), .va (rkI x), s3]) m' Q := fun hlt Q q => by
      rw [triF_app]
      refine ⟨_, rfl, ?_⟩
      simp_arith [rk_ix1]
      have q := q (os ++ [x]) rfl ⟨by simp; omega, List.pairwise_append.mpr ⟨h2, by simp, fun y hy z hz => by
        rw [List.mem_singleton.mp hz]; exact hlt y hy⟩, fun k => by rw [htk, List.mem_append, List.mem_append, h3 k], fun y hy z hz => by
        rcases List.mem_append.mp hy with w | w
        · exact h4 y w z (by rw [hdr]; simp [hz])
        · rw [List.mem_singleton.mp w]; exact hxx z hz⟩
      rw [List.map_append] at q
      exact ⟨by omega, q⟩
    rw [triF_if]
    simp_arith [lst_len]
    by_cases h0 : os = []
    · subst h0
      simp_arith [List.length_nil, List.map_nil]
      rw [if_pos (by decide)]
      exact app (by simp) _ fun z _ hz => ⟨rfl, z, _, _, rfl, hz⟩
    · obtain ⟨os', l, e⟩ : ∃ os' l, os = os' ++ [l] := ⟨os.dropLast, os.getLast h0, (List.dropLast_concat_getLast h0).symm⟩
      have ne : ((os.length : Nat) : Int) ≠ 0 := by
        have := List.length_pos_iff.mpr h0
        omega
      rw [decide_eq_false ne]
      simp_arith [neg1, rk_ix1]
      rw [e, List.map_append, List.map_cons, List.map_nil, last_ix, ne_tup, tri_asB]
      by_cases hl2 : l = x
      · subst hl2
        simp_arith [decide_true]
        refine ⟨os, _, _, by rw [e, List.map_append]; rfl, by omega, h2, fun k => ?_, fun y hy z hz => h4 y hy z (by rw [hdr]; simp [hz])⟩
        rw [htk, List.mem_append, ← h3 k, List.mem_singleton]
        exact ⟨.inl, fun z => z.elim id fun z => by rw [z, e]; simp⟩
      · rw [decide_eq_false hl2]
        simp_arith []
        have : (List.map tupI os' ++ [tupI l]) = os.map tupI := by rw [e, List.map_append]; rfl
        rw [this]
        refine app (fun y hy => ?_) _ fun z _ hz => ⟨rfl, z, _, _, rfl, hz⟩
        have lx : lotLt l x := by
          rcases lotLt_tri l x with q | q | q
          · exact q
          · exact absurd q hl2
          · exact absurd q (h4 l (by rw [e]; simp) x (by rw [hdr]; simp))
        rw [e] at hy h2
        rcases List.mem_append.mp hy with w | w
        · exact lotLt_trans ((List.pairwise_append.mp h2).2.2 y w l (by simp)) lx
        · rw [List.mem_singleton.mp w]; exact lx
  · obtain ⟨em, os, s2, s3, eρ, h1, h2, h3, h4⟩ := hI
    subst em eρ
    simp_arith []
    have el : os = lsort L := lsort_of h2 fun k => by
      rw [h3 k, Nat.zero_add, List.length_map, List.take_length, msort_mem]
    rw [el]
    exact q
end
end Hd
set_option Elab.async false
set_option linter.all false
set_option maxRecDepth 100000
set_option maxHeartbeats 4000000
namespace Hd
open PySem PySem.Spec PyProof.Rows L2 Den
local macro_rules | `(tactic| simp_arith [$xs,*]) => `(tactic| try simp (disch := first | assumption | omega) only [tri_runF, triF_seq, triF_nx, triF_rt, triF_ret, triF_if, triF_asg, triF_exp, aft_nx, aft_rt, fin_rt, fin_nx, tri_fC, tri_gVar, tri_f2, tri_f1, tri_fL, tri_aN, tri_aC, tri_fTup, tri_lDis, tri_fNew, tri_fNot, tri_fAnd, tri_fOr, tri_fIf, tri_tT, tri_t2, tri_tYes, tri_tNo, tri_tAnd, tri_tOr, tri_asB, tri_truB, tri_truI, tri_truL, tri_truT, tri_truN, tri_add, tri_sub, tri_lt, tri_le, tri_gt, tri_ge, tri_int, tri_eqI, tri_neI, tri_iSeq, tri_itsL, tri_itsT, tri_iRan, tri_rangeN, tri_comp, tri_comp2, tri_gProp, tri_gFld, tri_gIsi, tri_lG, tri_iG, tri_enum, tri_tupL, tri_tupT, tri_gCallK, le_lim,
  vw, allM, Sl.see, List.map_cons, List.map_nil, List.getElem?_cons_zero, List.getElem?_cons_succ, List.set_cons_zero, List.set_cons_succ, Option.some.injEq, exists_eq_left', List.length_cons, List.length_nil, List.length_map, List.length_range, List.cons_append, List.nil_append, List.append_nil, List.replicate_succ, List.replicate_zero, Nat.reduceSub, Nat.reduceAdd, Nat.reduceEqDiff, Nat.reduceLeDiff, List.isEmpty_nil, Bool.true_or, Bool.not_true, Bool.not_false, true_and, and_true, and_self, if_true, if_false, Bool.false_eq_true, reduceIte, $xs,*])
def cl (a : List (List Bool)) (i k : Nat) : Bool := (a.getD i []).getD k false
/-- row i as a set -/
def rwP (w : Nat) (a : List (List Bool)) (i k : Nat) : Bool := decide (k < w) && cl a i k
def rows (w : Nat) (a : List (List Bool)) : List (Nat → Bool) := (List.range a.length).map (rwP w a)
theorem rows_len {w : Nat} {a : List (List Bool)} : (rows w a).length = a.length := by simp [rows]
theorem rows_get {w : Nat} {a : List (List Bool)} {i : Nat} (h : i < a.length) : (rows w a)[i]? = some (rwP w a i) := by simp [rows, h]
theorem rows_mem {w : Nat} {a : List (List Bool)} {p : Nat → Bool} : p ∈ rows w a ↔ ∃ i, i < a.length ∧ p = rwP w a i := by
  unfold rows
  simp only [List.mem_map, List.mem_range]
  exact ⟨fun ⟨i, h, e⟩ => ⟨i, h, e.symm⟩, fun ⟨i, h, e⟩ => ⟨i, h, e.symm⟩⟩
theorem rows_S {w : Nat} (hw : w ≤ 6) (a : List (List Bool)) : a.map (lotR w) = (rows w a).map lotS := by
  unfold rows
  rw [List.map_map]
  refine List.ext_getElem (by simp) fun i h1 h2 => ?_
  simp only [List.getElem_map, List.getElem_range, Function.comp]
  rw [lotR_S hw]
  refine lotS_ext fun k _ => ?_
  unfold rwP cl
  have : i < a.length := by simpa using h1
  simp [this]
/-- q within p -/
def subP (q p : Nat → Bool) : Bool := (lot q).all p
theorem subP_iff {q p : Nat → Bool} : subP q p = true ↔ ∀ k, k < 6 → q k = true → p k = true := by
  unfold subP
  rw [List.all_eq_true]
  exact ⟨fun h k a b => h k (lot_mem.mpr ⟨a, b⟩), fun h k hk => h k (lot_mem.mp hk).1 (lot_mem.mp hk).2⟩
/-- the join -/
def joinP (ps : List (Nat → Bool)) (k : Nat) : Bool := ps.any fun p => p k
section
variable {m : SM} {P : D → SM → Prop} {w : Nat} {a : List (List Bool)} {p q : Nat → Bool}
theorem rowlots_S (hA : Rect w a) : Tri (den_Table_row_lots [tabD w a]) m P ↔ P (.lst ((rows w a).map lotS)) m := by rw [row_lots_iff hA, rows_S hA.wide]
theorem chk_S (hw : w ≤ 6) (h : ∀ k, k < 6 → p k = true → k < w) : Tri (den_check_lot [lotS p, .int (w : Nat)]) m P ↔ P .non m := chk_iff hw (lotS_dat p) (lotS_B h)
theorem has_all_S : Tri (den__has_all [lotS p, lotS q]) m P ↔ P (.bl (subP q p)) m := by
  unfold den__has_all
  have := lot_len q
  simp_arith [its_S]
  rw [tri_compMap (ψ := fun k => .bl (p k)) fun k hk => ⟨_, rfl, fun Q z => by simp_arith [in_S (p := p) (lot_mem.mp hk).1]; exact z⟩]
  rw [show ((lot q).map fun k => D.bl (p k)) = ((lot q).map p).map .bl by rw [List.map_map]; rfl, tri_all, List.all_map]
  rfl
theorem lots_S (hA : Rect w a) : Tri (den__law_lots [gridD a.length w a]) m P ↔ P (.lst ((rows w a).map lotS)) m := by
  rw [← rows_S hA.wide]
  have h6 := hA.high
  have w6 := hA.wide
  exact iff_at fun P q => lots_run (by omega) hA.row (by omega) q
theorem within_S : Tri (den__law_within [lotS p, lotS q]) m P ↔ P (.bl (subP p q)) m := by
  unfold den__law_within
  have := lot_len p
  simp_arith [its_S]
  rw [tri_compMap (ψ := fun k => .bl (q k)) fun k hk => ⟨_, rfl, fun Q z => by simp_arith [in_S (p := q) (lot_mem.mp hk).1]; exact z⟩]
  rw [show ((lot p).map fun k => D.bl (q k)) = ((lot p).map q).map .bl by rw [List.map_map]; rfl, tri_all, List.all_map]
  rfl
theorem jn_S (ps : List (Nat → Bool)) : jn 6 (ps.map lotS) = lot (joinP ps) := by
  unfold jn lot joinP
  refine List.filter_congr fun k hk => ?_
  rw [List.any_map]
  congr 1
  funext p
  show decide ((k : Int) ∈ intsOf (lotS p)) = p k
  rw [lotS_ints, Bool.eq_iff_iff, decide_eq_true_eq, lotI_memN]
  exact ⟨fun h => h.2, fun h => ⟨List.mem_range.mp hk, h⟩⟩
theorem join_S {ps : List (Nat → Bool)} (hl : ps.length ≤ 100000) : Tri (den__law_join [.lst (ps.map lotS)]) m P ↔ P (lotS (joinP ps)) m := iff_at fun P q => by
  refine join_run (fun d hd => ?_) (by rw [List.length_map]; exact hl) ?_
  · obtain ⟨p, _, e⟩ := List.mem_map.mp hd
    subst e
    rw [lotS_ints]; rfl
  · rw [jn_S]
    rw [lotS_nats] at q
    exact q
end
end Hd
set_option Elab.async false
set_option linter.all false
set_option maxRecDepth 100000
set_option maxHeartbeats 4000000
namespace Den
open PySem PySem.Spec PyProof.Rows L2
@[irreducible] def TriX {α : Type} (Ex : Str → List (Str × D) → SM → Prop) (x : M α) (m : SM) (P : α → SM → Prop) : Prop := match x m with
  | .ok a m' => P a m'
  | .err c fs m' => Ex c fs m'
  | .bad => False
section
variable {α β : Type} {Ex : Str → List (Str × D) → SM → Prop} {x : M α} {m : SM} {P Q : α → SM → Prop}
theorem trx_of {a : α} (h : x m = .ok a m) : TriX Ex x m P ↔ P a m := by unfold TriX; rw [h]
theorem lx {v : α} (h : ∀ P : α → SM → Prop, Tri x m P ↔ P v m) : TriX Ex x m P ↔ P v m := by
  obtain ⟨b, m', h1, h2, h3⟩ := ((h fun b m' => b = v ∧ m' = m).mpr ⟨rfl, rfl⟩).run
  subst h2 h3
  exact trx_of h1
theorem trx_mono (h : TriX Ex x m Q) (k : ∀ a m', Q a m' → P a m') : TriX Ex x m P := by
  unfold TriX at h ⊢
  cases e : x m with
  | ok a m' => rw [e] at h; exact k a m' h
  | err c fs m' => rw [e] at h; exact h
  | bad => rw [e] at h; exact h
theorem trx_noErr : TriX Ex (noErr x) m P ↔ Tri x m P := by
  unfold TriX Tri noErr
  cases x m <;> rfl
theorem trx_pure {a : α} : TriX Ex (pure a) m P ↔ P a m := by unfold TriX; exact Iff.rfl
theorem trx_bind {f : α → M β} {P : β → SM → Prop} : TriX Ex (x >>= f) m P ↔ TriX Ex x m fun a m' => TriX Ex (f a) m' P := by
  unfold TriX
  rw [bind_run]
  cases x m <;> rfl
theorem trx_bad : TriX Ex (M.bad : M α) m P ↔ False := by unfold TriX; exact Iff.rfl
theorem trx_need {b : Bool} {P : Unit → SM → Prop} : TriX Ex (need b) m P ↔ b = true ∧ P () m := by
  unfold need
  by_cases h : b = true
  · rw [if_pos h, trx_pure]; exact ⟨fun z => ⟨h, z⟩, fun z => z.2⟩
  · rw [if_neg h, trx_bad]; exact ⟨fun z => z.elim, fun z => h z.1⟩
theorem trx_lim {n : Nat} {P : Unit → SM → Prop} : TriX Ex (lim n) m P ↔ n ≤ 16777216 ∧ P () m := by
  unfold lim
  by_cases h : n ≤ 16777216
  · rw [if_pos h, trx_pure]; exact ⟨fun z => ⟨h, z⟩, fun z => z.2⟩
  · rw [if_neg h, trx_bad]; exact ⟨fun z => z.elim, fun z => h z.1⟩
theorem trx_ite {c : Prop} [Decidable c] {x y : M α} : TriX Ex (if c then x else y) m P ↔ if c then TriX Ex x m P else TriX Ex y m P := by
  by_cases h : c
  · rw [if_pos h, if_pos h]
  · rw [if_neg h, if_neg h]
end
section
variable {Ex : Str → List (Str × D) → SM → Prop} {m : SM} {P : D → SM → Prop} {ρ : EV} {F G J : EV → M D} {A : EV → M (List D)}
theorem trx_fC {d : D} : TriX Ex (fC d ρ) m P ↔ P d m := by unfold TriX; exact Iff.rfl
theorem trx_gVar {i : Nat} : TriX Ex (gVar i ρ) m P ↔ ∃ d, ρ[i]? = some (some d) ∧ P d m := by
  unfold gVar TriX
  cases e : ρ[i]? with
  | none => simp
  | some o =>
    cases o with
    | none => simp
    | some d => simp
theorem trx_f2 {g : D → D → M D} : TriX Ex (f2 g F G ρ) m P ↔ TriX Ex (F ρ) m fun x m => TriX Ex (G ρ) m fun y m => TriX Ex (g x y) m P := by
  unfold f2; rw [trx_bind]; simp only [trx_bind]
theorem trx_f1 {g : D → M D} : TriX Ex (f1 g F ρ) m P ↔ TriX Ex (F ρ) m fun x m => TriX Ex (g x) m P := trx_bind
theorem trx_fL {g : List D → M D} : TriX Ex (fL g A ρ) m P ↔ TriX Ex (A ρ) m fun ds m => TriX Ex (g ds) m P := trx_bind
theorem trx_aN {P : List D → SM → Prop} : TriX Ex (aN ρ) m P ↔ P [] m := by unfold TriX; exact Iff.rfl
theorem trx_aC {P : List D → SM → Prop} : TriX Ex (aC F A ρ) m P ↔ TriX Ex (F ρ) m fun d m => TriX Ex (A ρ) m fun ds m => P (d :: ds) m := by
  unfold aC; simp only [trx_bind, trx_pure]
theorem trx_fTup : TriX Ex (fTup A ρ) m P ↔ TriX Ex (A ρ) m fun ds m => ds.length ≤ 16777216 ∧ P (.tup ds) m := by
  unfold fTup; simp only [trx_bind, trx_lim, trx_pure]
theorem trx_lDis {P : List D → SM → Prop} : TriX Ex (lDis A ρ) m P ↔ TriX Ex (A ρ) m fun ds m => ds.length ≤ 16777216 ∧ P ds m := by
  unfold lDis; simp only [trx_bind, trx_lim, trx_pure]
theorem trx_fNew {L : EV → M (List D)} : TriX Ex (fNew L ρ) m P ↔ TriX Ex (L ρ) m fun ds m => P (.lst ds) m := by
  unfold fNew; simp only [trx_bind, trx_pure]
theorem trx_fNot : TriX Ex (fNot F ρ) m P ↔ TriX Ex (F ρ) m fun x m => TriX Ex (dTru x) m fun b m => P (.bl (!b)) m := by
  unfold fNot; simp only [trx_bind, trx_pure]
theorem trx_fAnd : TriX Ex (fAnd F G ρ) m P ↔ TriX Ex (F ρ) m fun x m => TriX Ex (dTru x) m fun b m => if b = true then TriX Ex (G ρ) m P else P x m := by
  unfold fAnd; simp only [trx_bind, trx_ite, trx_pure]
theorem trx_fOr : TriX Ex (fOr F G ρ) m P ↔ TriX Ex (F ρ) m fun x m => TriX Ex (dTru x) m fun b m => if b = true then P x m else TriX Ex (G ρ) m P := by
  unfold fOr; simp only [trx_bind, trx_ite, trx_pure]
theorem trx_fIf {C : EV → M Bool} : TriX Ex (fIf C F G ρ) m P ↔ TriX Ex (C ρ) m fun b m => if b = true then TriX Ex (F ρ) m P else TriX Ex (G ρ) m P := by
  unfold fIf; simp only [trx_bind, trx_ite]
end
section
variable {Ex : Str → List (Str × D) → SM → Prop} {m : SM} {P : Bool → SM → Prop} {ρ : EV} {F G : EV → M D} {C C' : EV → M Bool}
theorem trx_tT : TriX Ex (tT F ρ) m P ↔ TriX Ex (F ρ) m fun x m => TriX Ex (dTru x) m P := trx_bind
theorem trx_t2 {g : D → D → M D} : TriX Ex (t2 g F G ρ) m P ↔ TriX Ex (F ρ) m fun x m => TriX Ex (G ρ) m fun y m => TriX Ex (g x y) m fun z m => TriX Ex (asB z) m P := by
  unfold t2; simp only [trx_bind]
theorem trx_tYes : TriX Ex (tYes ρ) m P ↔ P true m := by unfold TriX; exact Iff.rfl
theorem trx_tNo : TriX Ex (tNo C ρ) m P ↔ TriX Ex (C ρ) m fun b m => P (!b) m := by unfold tNo; simp only [trx_bind, trx_pure]
theorem trx_tAnd : TriX Ex (tAnd C C' ρ) m P ↔ TriX Ex (C ρ) m fun b m => if b = true then TriX Ex (C' ρ) m P else P false m := by unfold tAnd; simp only [trx_bind, trx_ite, trx_pure]
theorem trx_tOr : TriX Ex (tOr C C' ρ) m P ↔ TriX Ex (C ρ) m fun b m => if b = true then P true m else TriX Ex (C' ρ) m P := by unfold tOr; simp only [trx_bind, trx_ite, trx_pure]
end
section
variable {Ex : Str → List (Str × D) → SM → Prop} {m : SM} {P : D → SM → Prop} {ρ : EV} {F G : EV → M D} {A : EV → M (List D)}
theorem trx_iSeq {P : List D → SM → Prop} : TriX Ex (iSeq F ρ) m P ↔ TriX Ex (F ρ) m fun d m => TriX Ex (dIts d) m P := trx_bind
theorem trx_iRan {P : List D → SM → Prop} {n : Nat} : TriX Ex (iRan n A ρ) m P ↔ TriX Ex (A ρ) m fun ds m => ds.length = n ∧ TriX Ex (dRange ds) m P := by
  unfold iRan; simp only [trx_bind, trx_need, decide_eq_true_eq]
theorem trx_iG {P : List D → SM → Prop} {g : List D → M (List D)} : TriX Ex (iG g A ρ) m P ↔ TriX Ex (A ρ) m fun ds m => TriX Ex (g ds) m P := trx_bind
theorem trx_lG {g : List D → M (List D)} {P : List D → SM → Prop} : TriX Ex (lG g A ρ) m P ↔ TriX Ex (A ρ) m fun ds m => TriX Ex (g ds) m P := trx_bind
theorem trx_gFld {c f : Str} : TriX Ex (gFld c f F ρ) m P ↔ TriX Ex (F ρ) m fun x m => TriX Ex (dFld c f x) m P := by
  unfold gFld; simp only [trx_bind]
theorem trx_gIsi {oc : Option Str} {cls : List Cl} : TriX Ex (gIsi oc cls F ρ) m P ↔ TriX Ex (F ρ) m fun x m => x.plainOr oc = true ∧ P (.bl (cls.any (isCl x))) m := by
  unfold gIsi; simp only [trx_bind, trx_need, trx_pure]
theorem trx_gCallK {m : SM} {P : D → SM → Prop} {ρ : EV} {A Ak : EV → M (List D)} {g : List D → M D} {n k : Nat} {pl : List Nat} {cd : List D} : TriX Ex (gCallK g A Ak n k pl cd ρ) m P ↔ TriX Ex (A ρ) m fun ds m => TriX Ex (Ak ρ) m fun es m => (ds.length = n ∧ es.length = k) ∧ TriX Ex (g (pick pl (ds ++ (es ++ cd)))) m P := by
  unfold gCallK gArgs
  simp only [trx_bind, trx_need, trx_pure, Bool.and_eq_true, decide_eq_true_eq]
theorem trx_gProp {c : Str} {g : List D → M D} : TriX Ex (gProp c g F ρ) m P ↔ TriX Ex (F ρ) m fun x m => isObj c x = true ∧ Tri (g [x]) m P := by
  unfold gProp; simp only [trx_bind, trx_need, trx_noErr]
theorem compL_noErr {bnd : D → EV → Option EV} {C : EV → M Bool} {E : EV → M D} : ∀ (ds : List D) (m : SM) (c : Str) (fs : List (Str × D)) (m' : SM), compL bnd C E ρ ds m ≠ .err c fs m'
  | [], m, c, fs, m' => by rw [compL]; intro h; cases h
  | d :: ds, m, c, fs, m' => by
    have ih := compL_noErr (bnd := bnd) (C := C) (E := E) ds
    intro h
    rw [compL, bind_run] at h
    unfold bindE at h
    cases hb : bnd d ρ with
    | none => rw [hb] at h; cases h
    | some ρ1 =>
      rw [hb] at h
      simp only [pure_run, bind_run] at h
      rcases noErr_cases (C ρ1) m with ⟨b, m1, e1, e2⟩ | e2
      · rw [e2] at h
        simp only at h
        cases b with
        | true =>
          simp only [if_true, bind_run] at h
          rcases noErr_cases (E ρ1) m1 with ⟨y, m2, e3, e4⟩ | e4
          · rw [e4] at h
            simp only at h
            cases e5 : compL bnd C E ρ ds m2 with
            | ok r m3 => rw [e5] at h; cases h
            | err c' fs' m3 => exact ih _ _ _ _ e5
            | bad => rw [e5] at h; cases h
          · rw [e4] at h; cases h
        | false =>
          simp only [Bool.false_eq_true, if_false] at h
          exact ih _ _ _ _ h
      · rw [e2] at h; cases h
theorem trx_compL {P : List D → SM → Prop} {bnd : D → EV → Option EV} {C : EV → M Bool} {E : EV → M D} {ds : List D} : TriX Ex (compL bnd C E ρ ds) m P ↔ Tri (compL bnd C E ρ ds) m P := by
  unfold TriX Tri
  cases e : compL bnd C E ρ ds m with
  | ok a m' => rfl
  | err c fs m' => exact absurd e (compL_noErr _ _ _ _ _)
  | bad => rfl
theorem trx_comp {P : List D → SM → Prop} {bnd : D → EV → Option EV} {I : EV → M (List D)} {C : EV → M Bool} {E : EV → M D} : TriX Ex (compV bnd I C E ρ) m P ↔ TriX Ex (I ρ) m fun ds m => ds.length ≤ 16777216 ∧ Tri (compL bnd C E ρ ds) m P := by
  unfold compV; simp only [trx_bind, trx_lim, trx_compL]
theorem trx_gXa {cs : List Str} {f : Str} : TriX Ex (gXa cs f F ρ) m P ↔ TriX Ex (F ρ) m fun x m => ∃ c fs d, x = .exc c fs ∧ cs.contains c = true ∧ fs.lookup f = some d ∧ P d m := by
  unfold gXa
  rw [trx_bind]
  have : ∀ (x : D) (m : SM), TriX Ex (match x with
    | .exc c fs => (do
      need (cs.contains c)
      match fs.lookup f with
      | some d => pure d
      | none => M.bad)
    | _ => M.bad) m P ↔ ∃ c fs d, x = .exc c fs ∧ cs.contains c = true ∧ fs.lookup f = some d ∧ P d m := fun x m => by
    cases x with
    | exc c fs =>
      simp only [trx_bind, trx_need]
      constructor
      · rintro ⟨h1, h2⟩
        cases e : fs.lookup f with
        | none => rw [e] at h2; exact (trx_bad.mp h2).elim
        | some d => rw [e] at h2; exact ⟨c, fs, d, rfl, h1, e, trx_pure.mp h2⟩
      · rintro ⟨c', fs', d, h0, h1, h2, h3⟩
        cases h0
        rw [h2]
        exact ⟨h1, trx_pure.mpr h3⟩
    | _ => exact ⟨fun h => (trx_bad.mp h).elim, fun ⟨_, _, _, h, _⟩ => by cases h⟩
  exact ⟨fun h => trx_mono h fun x m z => (this x m).mp z, fun h => trx_mono h fun x m z => (this x m).mpr z⟩
theorem trx_gIsx {tab : List (Str × Bool)} : TriX Ex (gIsx tab F ρ) m P ↔ TriX Ex (F ρ) m fun x m => ∃ c fs b, x = .exc c fs ∧ tab.lookup c = some b ∧ P (.bl b) m := by
  unfold gIsx
  rw [trx_bind]
  have : ∀ (x : D) (m : SM), TriX Ex (match x with
    | .exc c _ => (match tab.lookup c with
      | some b => (pure (.bl b) : M D)
      | none => M.bad)
    | _ => M.bad) m P ↔ ∃ c fs b, x = .exc c fs ∧ tab.lookup c = some b ∧ P (.bl b) m := fun x m => by
    cases x with
    | exc c fs =>
      simp only
      constructor
      · intro h2
        cases e : tab.lookup c with
        | none => rw [e] at h2; exact (trx_bad.mp h2).elim
        | some b => rw [e] at h2; exact ⟨c, fs, b, rfl, e, trx_pure.mp h2⟩
      · rintro ⟨c', fs', b, h0, h1, h3⟩
        cases h0
        rw [h1]
        exact trx_pure.mpr h3
    | _ => exact ⟨fun h => (trx_bad.mp h).elim, fun ⟨_, _, _, h, _⟩ => by cases h⟩
  exact ⟨fun h => trx_mono h fun x m z => (this x m).mp z, fun h => trx_mono h fun x m z => (this x m).mpr z⟩
end
section
variable {Ex : Str → List (Str × D) → SM → Prop} {m : SM} {P : Fl → SM → Prop} {ρ : SV} {G G1 G2 : SV → M Fl}
theorem sx_exB {α : Type} {x : M α} {f : α → M Fl} : Tri (exB x ρ f) m P ↔ TriX (fun c fs m' => P (.ex c fs ρ) m') x m fun a m' => Tri (f a) m' P := by
  unfold Tri TriX
  rw [exB_run]
  cases x m <;> rfl
def aftX (G : SV → M Fl) (P : Fl → SM → Prop) : Fl → SM → Prop
  | .nx ρ', m => Tri (G ρ') m P
  | f, m => P f m
theorem aftX_nx {ρ' : SV} : aftX G P (.nx ρ') m = Tri (G ρ') m P := rfl
theorem aftX_rt {d : D} : aftX G P (.rt d) m = P (.rt d) m := rfl
theorem aftX_rf {ds : List D} : aftX G P (.rf ds) m = P (.rf ds) m := rfl
theorem aftX_ex {c : Str} {fs : List (Str × D)} {ρ' : SV} : aftX G P (.ex c fs ρ') m = P (.ex c fs ρ') m := rfl
theorem sx_seq : Tri (gSeq G1 G2 ρ) m P ↔ Tri (G1 ρ) m (aftX G2 P) := by
  unfold gSeq
  rw [tri_bind]
  constructor <;> intro h <;> refine h.mono fun f m' z => ?_
  · cases f <;> first | exact z | exact (tri_pure (P := P)).mp z
  · cases f <;> first | exact z | exact (tri_pure (P := P)).mpr z
theorem sx_ret {F : EV → M D} : Tri (gRet F ρ) m P ↔ TriX (fun c fs m' => P (.ex c fs ρ) m') (F (vw (allM ρ) ρ)) m fun d m => P (.rt d) m := by unfold gRet; rw [sx_exB]; simp only [tri_pure]
theorem sx_if {C : EV → M Bool} : Tri (gIf C G1 G2 ρ) m P ↔ TriX (fun c fs m' => P (.ex c fs ρ) m') (C (vw (allM ρ) ρ)) m fun b m => if b = true then Tri (G1 ρ) m P else Tri (G2 ρ) m P := by unfold gIf; rw [sx_exB]; simp only [tri_ite]
theorem sx_asg {i : Nat} {mk : List Bool} {F : EV → M D} : Tri (gAsg i mk F ρ) m P ↔ TriX (fun c fs m' => P (.ex c fs ρ) m') (F (vw mk ρ)) m fun d m => (mk.isEmpty || d.flat) = true ∧ P (.nx (ρ.set i (.va d))) m := by unfold gAsg; rw [sx_exB]; simp only [tri_bind, tri_need, tri_pure]
theorem sx_exp {F : EV → M D} : Tri (gExp F ρ) m P ↔ TriX (fun c fs m' => P (.ex c fs ρ) m') (F (vw [] ρ)) m fun _ m => P (.nx ρ) m := by unfold gExp; rw [sx_exB]; simp only [tri_pure]
theorem sx_raise {c : Str} {names : List Str} {A : EV → M (List D)} : Tri (gRaise c names A ρ) m P ↔ TriX (fun c fs m' => P (.ex c fs ρ) m') (A (vw [] ρ)) m fun ds m => (ds.length = names.length ∧ names.length ≤ 100) ∧ P (.ex c (kept names ds) ρ) m := by
  unfold gRaise; rw [sx_exB]; simp only [tri_bind, tri_need, tri_pure, Bool.and_eq_true, decide_eq_true_eq]
theorem sx_rtOf {d : D} : Tri (rtOf (.rt d)) m P ↔ d.noX = true ∧ P (.rt d) m := by
  unfold rtOf
  simp only [tri_bind, tri_need, tri_pure]
def finX (P : D → SM → Prop) (Ex : Str → List (Str × D) → SM → Prop) : Fl → SM → Prop
  | .rt d, m => P d m
  | .rf ds, m => P (.lst ds) m
  | .nx _, m => P .non m
  | .ex c fs _, m => Ex c fs m
  | _, _ => False
theorem finX_rt {P : D → SM → Prop} {d : D} : finX P Ex (.rt d) m = P d m := rfl
theorem finX_rf {P : D → SM → Prop} {ds : List D} : finX P Ex (.rf ds) m = P (.lst ds) m := rfl
theorem finX_nx {P : D → SM → Prop} {ρ' : SV} : finX P Ex (.nx ρ') m = P .non m := rfl
theorem finX_ex {P : D → SM → Prop} {c : Str} {fs : List (Str × D)} {ρ' : SV} : finX P Ex (.ex c fs ρ') m = Ex c fs m := rfl
theorem sx_runF {P : D → SM → Prop} {p n : Nat} {ds : List D} : TriX Ex (runF p n G ds) m P ↔ ds.length = p ∧ Tri (G (ds.map .va ++ List.replicate (n - p) .no)) m (finX P Ex) := by
  unfold TriX runF
  by_cases h : ds.length = p
  · rw [if_pos h]
    unfold Tri
    cases e : G (ds.map .va ++ List.replicate (n - p) .no) m with
    | ok f m' => cases f <;> simp [finX, h]
    | err c fs m' => simp
    | bad => simp
  · rw [if_neg h]; simp [h]
end
end Den
set_option Elab.async false
set_option linter.all false
set_option maxRecDepth 100000
set_option maxHeartbeats 4000000
namespace Den
open PySem PySem.Spec PyProof.Rows L2
section
variable {Ex : Str → List (Str × D) → SM → Prop} {m : SM} {i j : Int}
theorem trx_asB {P : Bool → SM → Prop} {b : Bool} : TriX Ex (asB (.bl b)) m P ↔ P b m := lx fun P => tri_asB
theorem trx_truB {P : Bool → SM → Prop} {b : Bool} : TriX Ex (dTru (.bl b)) m P ↔ P b m := lx fun P => tri_truB
theorem trx_truI {P : Bool → SM → Prop} {i : Int} : TriX Ex (dTru (.int i)) m P ↔ P (i != 0) m := lx fun P => tri_truI
theorem trx_truL {P : Bool → SM → Prop} {xs : List D} : TriX Ex (dTru (.lst xs)) m P ↔ P (!xs.isEmpty) m := lx fun P => tri_truL
theorem trx_truT {P : Bool → SM → Prop} {xs : List D} : TriX Ex (dTru (.tup xs)) m P ↔ P (!xs.isEmpty) m := lx fun P => tri_truT
theorem trx_truN {P : Bool → SM → Prop} : TriX Ex (dTru .non) m P ↔ P false m := lx fun P => tri_truN
theorem trx_add {P : D → SM → Prop} : TriX Ex (dAdd (.int i) (.int j)) m P ↔ P (.int (i + j)) m := lx fun P => tri_add
theorem trx_sub {P : D → SM → Prop} : TriX Ex (dSub (.int i) (.int j)) m P ↔ P (.int (i - j)) m := lx fun P => tri_sub
theorem trx_lt {P : D → SM → Prop} : TriX Ex (dLt (.int i) (.int j)) m P ↔ P (.bl (decide (i < j))) m := lx fun P => tri_lt
theorem trx_le {P : D → SM → Prop} : TriX Ex (dLe (.int i) (.int j)) m P ↔ P (.bl (decide (i ≤ j))) m := lx fun P => tri_le
theorem trx_gt {P : D → SM → Prop} : TriX Ex (dGt (.int i) (.int j)) m P ↔ P (.bl (decide (j < i))) m := lx fun P => tri_gt
theorem trx_ge {P : D → SM → Prop} : TriX Ex (dGe (.int i) (.int j)) m P ↔ P (.bl (decide (j ≤ i))) m := lx fun P => tri_ge
theorem trx_int {P : D → SM → Prop} : TriX Ex (dInt [.int i]) m P ↔ P (.int i) m := lx fun P => tri_int
theorem trx_eqI {P : D → SM → Prop} : TriX Ex (dEq (.int i) (.int j)) m P ↔ P (.bl (decide (i = j))) m := lx fun P => tri_eqI
theorem trx_neI {P : D → SM → Prop} : TriX Ex (dNe (.int i) (.int j)) m P ↔ P (.bl (!decide (i = j))) m := lx fun P => tri_neI
theorem trx_itsL {P : List D → SM → Prop} {xs : List D} : TriX Ex (dIts (.lst xs)) m P ↔ P xs m := lx fun P => tri_itsL
theorem trx_itsT {P : List D → SM → Prop} {xs : List D} : TriX Ex (dIts (.tup xs)) m P ↔ P xs m := lx fun P => tri_itsT
theorem trx_enum {P : List D → SM → Prop} {xs : List D} : TriX Ex (dEnum [.lst xs]) m P ↔ P (enumD xs) m := lx fun P => tri_enum
theorem trx_tupL {P : D → SM → Prop} {xs : List D} : TriX Ex (dTuple [.lst xs]) m P ↔ P (.tup xs) m := lx fun P => tri_tupL
theorem trx_tupT {P : D → SM → Prop} {xs : List D} : TriX Ex (dTuple [.tup xs]) m P ↔ P (.tup xs) m := lx fun P => tri_tupT
theorem trx_rangeN {P : List D → SM → Prop} {n : Nat} (h : n ≤ 100000) : TriX Ex (dRange [.int (n : Int)]) m P ↔ P ((List.range n).map fun i : Nat => D.int (i : Int)) m := lx fun P => tri_rangeN h
end
end Den
set_option Elab.async false
set_option linter.all false
set_option maxRecDepth 100000
set_option maxHeartbeats 4000000
namespace Hd
open PySem PySem.Spec PyProof.Rows L2 Den
local macro_rules | `(tactic| simp_arith [$xs,*]) => `(tactic| try simp (disch := first | assumption | omega) only [tri_runF, triF_seq, triF_nx, triF_rt, triF_ret, triF_if, triF_asg, triF_exp, aft_nx, aft_rt, fin_rt, fin_nx, tri_pure, tri_fC, tri_gVar, tri_f2, tri_f1, tri_fL, tri_aN, tri_aC, tri_fTup, tri_lDis, tri_fNew, tri_fNot, tri_fAnd, tri_fOr, tri_fIf, tri_tT, tri_t2, tri_tYes, tri_tNo, tri_tAnd, tri_tOr, tri_asB, tri_truB, tri_truI, tri_truL, tri_truT, tri_truN, tri_add, tri_sub, tri_lt, tri_le, tri_gt, tri_ge, tri_int, tri_eqI, tri_neI, tri_iSeq, tri_itsL, tri_itsT, tri_iRan, tri_rangeN, tri_comp, tri_comp2, tri_gProp, tri_gFld, tri_gIsi, tri_lG, tri_iG, tri_enum, tri_tupL, tri_tupT, tri_gCallK, le_lim,
  sx_runF, sx_seq, sx_ret, sx_if, sx_asg, sx_exp, sx_raise, sx_rtOf, aftX_nx, aftX_rt, aftX_rf, aftX_ex, finX_rt, finX_rf, finX_nx, finX_ex, trx_pure, trx_fC, trx_gVar, trx_f2, trx_f1, trx_fL, trx_aN, trx_aC, trx_fTup, trx_lDis, trx_fNew, trx_fNot, trx_fAnd, trx_fOr, trx_fIf, trx_tT, trx_t2, trx_tYes, trx_tNo, trx_tAnd, trx_tOr, trx_asB, trx_truB, trx_truI, trx_truL, trx_truT, trx_truN, trx_add, trx_sub, trx_lt, trx_le, trx_gt, trx_ge, trx_int, trx_eqI, trx_neI, trx_iSeq, trx_itsL, trx_itsT, trx_iRan, trx_rangeN, trx_comp, trx_gProp, trx_gFld, trx_gIsi, trx_lG, trx_iG, trx_enum, trx_tupL, trx_tupT, trx_gCallK, trx_gXa, trx_gIsx,
  kept, List.zip_cons_cons, List.zip_nil_left, List.zip_nil_right, List.reverse_cons, List.reverse_nil, vw, allM, Sl.see, List.map_cons, List.map_nil, List.getElem?_cons_zero, List.getElem?_cons_succ, List.set_cons_zero, List.set_cons_succ, Option.some.injEq, exists_eq_left', List.length_cons, List.length_nil, List.length_map, List.length_range, List.cons_append, List.nil_append, List.append_nil, List.replicate_succ, List.replicate_zero, Nat.reduceSub, Nat.reduceAdd, Nat.reduceEqDiff, Nat.reduceLeDiff, List.isEmpty_nil, Bool.true_or, Bool.not_true, Bool.not_false, true_and, and_true, and_self, if_true, if_false, Bool.false_eq_true, reduceIte, $xs,*])
end Hd
set_option Elab.async false
set_option linter.all false
set_option maxRecDepth 100000
set_option maxHeartbeats 4000000
namespace Hd
open PySem PySem.Spec PyProof.Rows L2 Den
local macro_rules | `(tactic| simp_arith [$xs,*]) => `(tactic| try simp (disch := first | assumption | omega) only [tri_runF, triF_seq, triF_nx, triF_rt, triF_ret, triF_if, triF_asg, triF_exp, aft_nx, aft_rt, fin_rt, fin_nx, tri_pure, tri_fC, tri_gVar, tri_f2, tri_f1, tri_fL, tri_aN, tri_aC, tri_fTup, tri_lDis, tri_fNew, tri_fNot, tri_fAnd, tri_fOr, tri_fIf, tri_tT, tri_t2, tri_tYes, tri_tNo, tri_tAnd, tri_tOr, tri_asB, tri_truB, tri_truI, tri_truL, tri_truT, tri_truN, tri_add, tri_sub, tri_lt, tri_le, tri_gt, tri_ge, tri_int, tri_eqI, tri_neI, tri_iSeq, tri_itsL, tri_itsT, tri_iRan, tri_rangeN, tri_comp, tri_comp2, tri_gProp, tri_gFld, tri_gIsi, tri_lG, tri_iG, tri_enum, tri_tupL, tri_tupT, tri_gCallK, le_lim,
  sx_runF, sx_seq, sx_ret, sx_if, sx_asg, sx_exp, sx_raise, sx_rtOf, aftX_nx, aftX_rt, aftX_rf, aftX_ex, finX_rt, finX_rf, finX_nx, finX_ex, trx_pure, trx_fC, trx_gVar, trx_f2, trx_f1, trx_fL, trx_aN, trx_aC, trx_fTup, trx_lDis, trx_fNew, trx_fNot, trx_fAnd, trx_fOr, trx_fIf, trx_tT, trx_t2, trx_tYes, trx_tNo, trx_tAnd, trx_tOr, trx_asB, trx_truB, trx_truI, trx_truL, trx_truT, trx_truN, trx_add, trx_sub, trx_lt, trx_le, trx_gt, trx_ge, trx_int, trx_eqI, trx_neI, trx_iSeq, trx_itsL, trx_itsT, trx_iRan, trx_rangeN, trx_comp, trx_gProp, trx_gFld, trx_gIsi, trx_lG, trx_iG, trx_enum, trx_tupL, trx_tupT, trx_gCallK, trx_gXa, trx_gIsx,
  kept, List.zip_cons_cons, List.zip_nil_left, List.zip_nil_right, List.reverse_cons, List.reverse_nil, vw, allM, Sl.see, List.map_cons, List.map_nil, List.getElem?_cons_zero, List.getElem?_cons_succ, List.set_cons_zero, List.set_cons_succ, Option.some.injEq, exists_eq_left', List.length_cons, List.length_nil, List.length_map, List.length_range, List.cons_append, List.nil_append, List.append_nil, List.replicate_succ, List.replicate_zero, Nat.reduceSub, Nat.reduceAdd, Nat.reduceEqDiff, Nat.reduceLeDiff, List.isEmpty_nil, Bool.true_or, Bool.not_true, Bool.not_false, true_and, and_true, and_self, if_true, if_false, Bool.false_eq_true, reduceIte, $xs,*])
section
variable {m : SM} {P : D → SM → Prop} {Ex : Str → List (Str × D) → SM → Prop} {n w : Nat} {d : D} {a : List (List Bool)}
theorem islot_iff (h : datB n d = true) : Tri (den__law_is_lot [d, .int (w : Nat)]) m P ↔ P (.bl (lotB w d)) m := iff_at fun P q => law_lot_at h q
theorem grid2 : Tri (dIx (gridD a.length w a) (.int 2)) m P ↔ P (.int (w : Nat)) m := by
  unfold gridD
  rw [tri_ixT]
  exact ⟨fun ⟨d, h1, h2⟩ => by cases h1; exact h2, fun h => ⟨_, rfl, h⟩⟩
end
end Hd
set_option Elab.async false
set_option linter.all false
set_option maxRecDepth 100000
set_option maxHeartbeats 4000000
namespace Hd
open PySem PySem.Spec PyProof.Rows L2 Den
local macro_rules | `(tactic| simp_arith [$xs,*]) => `(tactic| try simp (disch := first | assumption | omega) only [tri_runF, triF_seq, triF_nx, triF_rt, triF_ret, triF_if, triF_asg, triF_exp, aft_nx, aft_rt, fin_rt, fin_nx, tri_pure, tri_fC, tri_gVar, tri_f2, tri_f1, tri_fL, tri_aN, tri_aC, tri_fTup, tri_lDis, tri_fNew, tri_fNot, tri_fAnd, tri_fOr, tri_fIf, tri_tT, tri_t2, tri_tYes, tri_tNo, tri_tAnd, tri_tOr, tri_asB, tri_truB, tri_truI, tri_truL, tri_truT, tri_truN, tri_add, tri_sub, tri_lt, tri_le, tri_gt, tri_ge, tri_int, tri_eqI, tri_neI, tri_iSeq, tri_itsL, tri_itsT, tri_iRan, tri_rangeN, tri_comp, tri_comp2, tri_gProp, tri_gFld, tri_gIsi, tri_lG, tri_iG, tri_enum, tri_tupL, tri_tupT, tri_gCallK, le_lim,
  sx_runF, sx_seq, sx_ret, sx_if, sx_asg, sx_exp, sx_raise, sx_rtOf, aftX_nx, aftX_rt, aftX_rf, aftX_ex, finX_rt, finX_rf, finX_nx, finX_ex, trx_pure, trx_fC, trx_gVar, trx_f2, trx_f1, trx_fL, trx_aN, trx_aC, trx_fTup, trx_lDis, trx_fNew, trx_fNot, trx_fAnd, trx_fOr, trx_fIf, trx_tT, trx_t2, trx_tYes, trx_tNo, trx_tAnd, trx_tOr, trx_asB, trx_truB, trx_truI, trx_truL, trx_truT, trx_truN, trx_add, trx_sub, trx_lt, trx_le, trx_gt, trx_ge, trx_int, trx_eqI, trx_neI, trx_iSeq, trx_itsL, trx_itsT, trx_iRan, trx_rangeN, trx_comp, trx_gProp, trx_gFld, trx_gIsi, trx_lG, trx_iG, trx_enum, trx_tupL, trx_tupT, trx_gCallK, trx_gXa, trx_gIsx,
  kept, List.zip_cons_cons, List.zip_nil_left, List.zip_nil_right, List.reverse_cons, List.reverse_nil, vw, allM, Sl.see, List.map_cons, List.map_nil, List.getElem?_cons_zero, List.getElem?_cons_succ, List.set_cons_zero, List.set_cons_succ, Option.some.injEq, exists_eq_left', List.length_cons, List.length_nil, List.length_map, List.length_range, List.cons_append, List.nil_append, List.append_nil, List.replicate_succ, List.replicate_zero, Nat.reduceSub, Nat.reduceAdd, Nat.reduceEqDiff, Nat.reduceLeDiff, List.isEmpty_nil, Bool.true_or, Bool.not_true, Bool.not_false, true_and, and_true, and_self, if_true, if_false, Bool.false_eq_true, reduceIte, $xs,*])
section
variable {m : SM} {P : D → SM → Prop} {ρ : EV} {w : Nat} {a : List (List Bool)}
/-- [E for x in map φ xs if c], where c may draw -/
theorem tri_compAny {α : Type} {bnd : D → EV → Option EV} {C : EV → M Bool} {E : EV → M D} {φ ψ : α → D} (I : SM → Prop) : ∀ (xs : List α) {m : SM} {P : List D → SM → Prop}, I m →
    (∀ x ∈ xs, ∀ m, I m → ∃ ρ1, bnd (φ x) ρ = some ρ1 ∧ (∀ Q : Bool → SM → Prop, (∀ b m', I m' → Q b m') → Tri (C ρ1) m Q) ∧ ∀ (m : SM) (Q : D → SM → Prop), I m → Q (ψ x) m → Tri (E ρ1) m Q) →
    (∀ (ys : List α) (m' : SM), I m' → ys.Sublist xs → P (ys.map ψ) m') → Tri (compL bnd C E ρ (xs.map φ)) m P
  | [], m, P, hI, _, q => by rw [List.map_nil, compL, tri_pure]; exact q [] m hI (List.Sublist.refl _)
  | x :: xs, m, P, hI, h, q => by
    obtain ⟨ρ1, h1, h2, h3⟩ := h x (by simp) m hI
    rw [List.map_cons, tri_compL_cons]
    refine ⟨ρ1, h1, h2 _ fun b m' hm => ?_⟩
    have hx : ∀ y ∈ xs, ∀ m, I m → ∃ ρ1, bnd (φ y) ρ = some ρ1 ∧ (∀ Q : Bool → SM → Prop, (∀ b m', I m' → Q b m') → Tri (C ρ1) m Q) ∧ ∀ (m : SM) (Q : D → SM → Prop), I m → Q (ψ y) m → Tri (E ρ1) m Q := fun y hy => h y (by simp [hy])
    cases b with
    | true =>
      rw [if_pos rfl]
      refine h3 m' _ hm (tri_compAny I xs hm hx fun ys m2 hm2 hs => ?_)
      exact q (x :: ys) m2 hm2 (hs.cons_cons x)
    | false =>
      rw [if_neg (by simp)]
      exact tri_compAny I xs hm hx fun ys m2 hm2 hs => q ys m2 hm2 (hs.cons x)
theorem sub_lot {ys : List Nat} (hw : w ≤ 6) (h : ys.Sublist (List.range w)) : D.tup (ys.map fun i : Nat => D.int (i : Int)) = lotS fun k => decide (k ∈ ys) := by
  have e : ys = lot fun k => decide (k ∈ ys) := by
    have p1 : ys.Pairwise (· < ·) := List.pairwise_lt_range.sublist h
    have p2 : (lot fun k => decide (k ∈ ys)).Pairwise (· < ·) := List.Pairwise.filter _ List.pairwise_lt_range
    have hm : ∀ k, k ∈ ys ↔ k ∈ lot fun k => decide (k ∈ ys) := fun k => by
      rw [lot_mem, decide_eq_true_eq]
      exact ⟨fun z => ⟨by have := List.mem_range.mp (h.subset z); omega, z⟩, fun z => z.2⟩
    have q1 : (ys.map fun i : Nat => (i : Int)).Pairwise (· < ·) := List.pairwise_map.mpr (p1.imp fun h => by omega)
    have q2 : ((lot fun k => decide (k ∈ ys)).map fun i : Nat => (i : Int)).Pairwise (· < ·) := List.pairwise_map.mpr (p2.imp fun h => by omega)
    have := ris_uniq q1 q2 fun k => by
      simp only [List.mem_map]
      exact ⟨fun ⟨i, hi, e⟩ => ⟨i, (hm i).mp hi, e⟩, fun ⟨i, hi, e⟩ => ⟨i, (hm i).mpr hi, e⟩⟩
    exact (List.map_inj_right (fun a b h => Int.ofNat.inj h)).mp this
  rw [lotS_nats]
  show natsD ys = _
  rw [← e]
/-- the law's drawn lot, as a set -/
theorem lot_S (hm : SI m) (hw : w ≤ 6) (h : ∀ m' (p : Nat → Bool), SI m' → (∀ k, p k = true → k < w) → P (lotS p) m') : Tri (den__law_lot [.sto, .int (w : Nat)]) m P := by
  have nil : ∀ m', SI m' → P (.tup []) m' := fun m' s => by
    have := h m' (fun _ => false) s (fun k hk => by simp at hk)
    exact this
  have sub : ∀ m' (ys : List Nat), SI m' → ys.Sublist (List.range w) → P (.tup (ys.map fun i : Nat => D.int (i : Int))) m' := fun m' ys s hs => by
    rw [sub_lot hw hs]
    exact h m' _ s fun k hk => List.mem_range.mp (hs.subset (of_decide_eq_true hk))
  have cmp : ∀ (m : SM) (z d : Int), SI m → ∀ C : EV → M Bool, (∀ (x : Nat) (m : SM), SI m → ∀ Q : Bool → SM → Prop, (∀ b m', SI m' → Q b m') → Tri (C [some .sto, some (.int (w : Nat)), some (.int z), some (.int d), some (.int (x : Nat))]) m Q) →
      Tri (compL (eName 4) C (gVar 4) [some .sto, some (.int (w : Nat)), some (.int z), some (.int d), none] ((List.range w).map fun i : Nat => D.int (i : Int))) m fun ds m => P (.tup ds) m := fun m z d hm C hC =>
    tri_compAny SI (List.range w) (φ := fun i : Nat => .int (i : Int)) (ψ := fun i : Nat => .int (i : Int)) hm (fun x hx m hm => ⟨_, rfl, fun Q q => hC x m hm Q q, fun m Q hm q => by simp_arith []; exact q⟩) fun ys m' s hs => sub m' ys s hs
  have cmp0 : ∀ (m : SM) (z : Int), SI m → Tri (compL (eName 4) Den.tYes (gVar 4) [some .sto, some (.int (w : Nat)), some (.int z), none, none] ((List.range w).map fun i : Nat => D.int (i : Int))) m fun ds m => P (.tup ds) m := fun m z hm =>
    tri_compAny SI (List.range w) (φ := fun i : Nat => .int (i : Int)) (ψ := fun i : Nat => .int (i : Int)) hm (fun x hx m hm => ⟨_, rfl, fun Q q => by simp_arith []; exact q _ _ hm, fun m Q hm q => by simp_arith []; exact q⟩) fun ys m' s hs => sub m' ys s hs
  unfold den__law_lot
  simp_arith [-aft_nx]
  refine take_at hm (by decide) fun m1 z s1 z0 z1 => ?_
  rw [aft_nx]
  simp_arith [-aft_nx]
  by_cases h0 : z = 0
  · rw [if_pos (by simpa using h0)]
    exact nil m1 s1
  rw [if_neg (by simpa using h0), aft_nx]
  simp_arith [-aft_nx]
  by_cases h1 : z = 1
  · rw [if_pos (by simpa using h1)]
    exact cmp0 m1 z s1
  rw [if_neg (by simpa using h1), aft_nx]
  simp_arith [-aft_nx]
  rw [aft_nx]
  simp_arith [-aft_nx]
  by_cases h4 : z < 4
  · rw [if_pos (by simpa using h4)]
    refine take_at s1 (by omega) fun m2 y s2 _ _ => ?_
    rw [aft_nx]
    simp_arith [-aft_nx]
    by_cases h2 : z = 2
    · rw [if_pos (by simpa using h2)]
      exact cmp _ z _ s2 _ fun x m hm Q q => by simp_arith []; exact q _ _ hm
    rw [if_neg (by simpa using h2), aft_nx]
    simp_arith [-aft_nx]
    by_cases h3 : z = 3
    · rw [if_pos (by simpa using h3)]
      exact cmp _ z _ s2 _ fun x m hm Q q => by simp_arith []; exact q _ _ hm
    rw [if_neg (by simpa using h3), aft_nx]
    simp_arith [-aft_nx]
    exact cmp _ z _ s2 _ fun x m hm Q q => by
      simp_arith []
      refine take_at hm (by decide) fun m2 y s2 _ _ => ?_
      simp_arith []
      exact q _ _ s2
  · rw [if_neg (by simpa using h4), aft_nx]
    simp_arith [-aft_nx]
    by_cases h2 : z = 2
    · omega
    rw [if_neg (by simpa using h2), aft_nx]
    simp_arith [-aft_nx]
    by_cases h3 : z = 3
    · omega
    rw [if_neg (by simpa using h3), aft_nx]
    simp_arith [-aft_nx]
    exact cmp _ z _ s1 _ fun x m hm Q q => by
      simp_arith []
      refine take_at hm (by decide) fun m2 y s2 _ _ => ?_
      simp_arith []
      exact q _ _ s2
end
end Hd
set_option Elab.async false
set_option linter.all false
set_option maxRecDepth 100000
set_option maxHeartbeats 4000000
namespace Hd
open PySem PySem.Spec PyProof.Rows L2 Den
local macro_rules | `(tactic| simp_arith [$xs,*]) => `(tactic| try simp (disch := first | assumption | omega) only [tri_runF, triF_seq, triF_nx, triF_rt, triF_ret, triF_if, triF_asg, triF_exp, aft_nx, aft_rt, fin_rt, fin_nx, tri_pure, tri_fC, tri_gVar, tri_f2, tri_f1, tri_fL, tri_aN, tri_aC, tri_fTup, tri_lDis, tri_fNew, tri_fNot, tri_fAnd, tri_fOr, tri_fIf, tri_tT, tri_t2, tri_tYes, tri_tNo, tri_tAnd, tri_tOr, tri_asB, tri_truB, tri_truI, tri_truL, tri_truT, tri_truN, tri_add, tri_sub, tri_lt, tri_le, tri_gt, tri_ge, tri_int, tri_eqI, tri_neI, tri_iSeq, tri_itsL, tri_itsT, tri_iRan, tri_rangeN, tri_comp, tri_comp2, tri_gProp, tri_gFld, tri_gIsi, tri_lG, tri_iG, tri_enum, tri_tupL, tri_tupT, tri_gCallK, le_lim,
  sx_runF, sx_seq, sx_ret, sx_if, sx_asg, sx_exp, sx_raise, sx_rtOf, aftX_nx, aftX_rt, aftX_rf, aftX_ex, finX_rt, finX_rf, finX_nx, finX_ex, trx_pure, trx_fC, trx_gVar, trx_f2, trx_f1, trx_fL, trx_aN, trx_aC, trx_fTup, trx_lDis, trx_fNew, trx_fNot, trx_fAnd, trx_fOr, trx_fIf, trx_tT, trx_t2, trx_tYes, trx_tNo, trx_tAnd, trx_tOr, trx_asB, trx_truB, trx_truI, trx_truL, trx_truT, trx_truN, trx_add, trx_sub, trx_lt, trx_le, trx_gt, trx_ge, trx_int, trx_eqI, trx_neI, trx_iSeq, trx_itsL, trx_itsT, trx_iRan, trx_rangeN, trx_comp, trx_gProp, trx_gFld, trx_gIsi, trx_lG, trx_iG, trx_enum, trx_tupL, trx_tupT, trx_gCallK, trx_gXa, trx_gIsx,
  kept, List.zip_cons_cons, List.zip_nil_left, List.zip_nil_right, List.reverse_cons, List.reverse_nil, vw, allM, Sl.see, List.map_cons, List.map_nil, List.getElem?_cons_zero, List.getElem?_cons_succ, List.set_cons_zero, List.set_cons_succ, Option.some.injEq, exists_eq_left', List.length_cons, List.length_nil, List.length_map, List.length_range, List.cons_append, List.nil_append, List.append_nil, List.replicate_succ, List.replicate_zero, Nat.reduceSub, Nat.reduceAdd, Nat.reduceEqDiff, Nat.reduceLeDiff, List.isEmpty_nil, Bool.true_or, Bool.not_true, Bool.not_false, true_and, and_true, and_self, if_true, if_false, Bool.false_eq_true, reduceIte, $xs,*])
def setOf (l : List Int) (k : Nat) : Bool := decide ((k : Int) ∈ l)
theorem setOf_at {p : Nat → Bool} {k : Nat} (hk : k < 6) : setOf (lotI p) k = p k := by
  unfold setOf
  rw [Bool.eq_iff_iff, decide_eq_true_eq, lotI_memN]
  exact ⟨fun h => h.2, fun h => ⟨hk, h⟩⟩
theorem lotI_ext {p q : Nat → Bool} (h : ∀ k, k < 6 → p k = q k) : lotI p = lotI q := by unfold lotI; rw [lot_ext h]
theorem setOf_lot (p : Nat → Bool) : lotI (setOf (lotI p)) = lotI p := lotI_ext fun k hk => setOf_at hk
def jstep (F : List (List Int)) (q : Nat → Bool) : List (List Int) := lsort (F ++ F.map fun l => lotI (joinP [setOf l, q]))
def joinedL (w : Nat) (a : List (List Bool)) : List (List Int) := (rows w a).foldl jstep [[]]
/-- all are lots -/
def AllLots (F : List (List Int)) : Prop := ∀ l ∈ F, ∃ p, l = lotI p
theorem jstep_lots {F : List (List Int)} {q : Nat → Bool} (h : AllLots F) : AllLots (jstep F q) := fun l hl => by
  rcases List.mem_append.mp (lsort_mem.mp hl) with z | z
  · exact h l z
  · obtain ⟨x, _, e⟩ := List.mem_map.mp z
    exact ⟨_, e.symm⟩
theorem jstep_len {F : List (List Int)} {q : Nat → Bool} : (jstep F q).length ≤ 2 * F.length := by
  unfold jstep
  have := lsort_len (l := F ++ F.map fun l => lotI (joinP [setOf l, q]))
  simp at this
  omega
theorem jfold_lots : ∀ {qs : List (Nat → Bool)} {F : List (List Int)}, AllLots F → AllLots (qs.foldl jstep F)
  | [], _, h => h
  | q :: qs, F, h => jfold_lots (qs := qs) (jstep_lots h)
theorem jfold_len : ∀ (qs : List (Nat → Bool)) (F : List (List Int)), (qs.foldl jstep F).length ≤ 2 ^ qs.length * F.length
  | [], F => by simp
  | q :: qs, F => by
    have h1 := jfold_len qs (jstep F q)
    have h2 := jstep_len (F := F) (q := q)
    rw [List.foldl_cons, List.length_cons, Nat.pow_succ]
    calc _ ≤ _ := h1
      _ ≤ 2 ^ qs.length * (2 * F.length) := Nat.mul_le_mul_left _ h2
      _ = _ := by rw [Nat.mul_assoc]
theorem jfold_ris : ∀ {qs : List (Nat → Bool)} {F : List (List Int)}, RisL F → RisL (qs.foldl jstep F)
  | [], _, h => h
  | q :: qs, F, h => jfold_ris (qs := qs) lsort_ris
theorem nil_lot0 : ([] : List Int) = lotI fun _ => false := by
  unfold lotI lot
  simp
theorem lots0 : AllLots [[]] := fun l hl => ⟨fun _ => false, (List.mem_singleton.mp hl).trans nil_lot0⟩
section
variable {m : SM} {P : D → SM → Prop} {w : Nat} {a : List (List Bool)}
theorem tupS {F : List (List Int)} (h : AllLots F) : F.map tupI = (F.map setOf).map lotS := by
  rw [List.map_map]
  refine List.map_congr_left fun l hl => ?_
  obtain ⟨p, e⟩ := h l hl
  subst e
  show tupI (lotI p) = .tup ((lotI (setOf (lotI p))).map .int)
  rw [setOf_lot]
theorem joined_iff (hA : Rect w a) : Tri (den__law_joined [gridD a.length w a]) m P ↔ P (.lst ((joinedL w a).map tupI)) m := iff_at fun P q => by
  have h6 := hA.high
  unfold den__law_joined
  simp_arith [-aft_nx]
  rw [aft_nx]
  simp_arith []
  rw [triF_for]
  simp_arith [lots_S hA]
  refine triF_loop (fun j ρ m' => m' = m ∧ ∃ s2 s3, ρ = [.va (gridD a.length w a), .va (.lst ((((rows w a).take j).foldl jstep [[]]).map tupI)), s2, s3]) _ 0 _ m ⟨rfl, .no, .no, rfl⟩ (fun j d ρ m' hd hI => ?_) (fun ρ m' hI => ?_)
  · obtain ⟨em, s2, s3, eρ⟩ := hI
    subst em eρ
    rw [Nat.zero_add] at *
    rw [List.getElem?_map] at hd
    obtain ⟨r, hr, er⟩ := Option.map_eq_some_iff.mp hd
    subst er
    have hj : j < a.length := by
      have := (List.getElem?_eq_some_iff.mp hr).1
      rwa [rows_len] at this
    refine ⟨_, rfl, ?_⟩
    generalize hF : ((rows w a).take j).foldl jstep [[]] = F
    have fl : AllLots F := hF ▸ jfold_lots lots0
    have fz : F.length ≤ 64 := by
      have := jfold_len ((rows w a).take j) [[]]
      rw [hF] at this
      have e : 2 ^ ((rows w a).take j).length ≤ 2 ^ 6 := Nat.pow_le_pow_right (by omega) (by rw [List.length_take]; omega)
      simp only [List.length_cons, List.length_nil, Nat.zero_add, Nat.mul_one] at this
      have e2 : 2 ^ 6 = 64 := by decide
      omega
    have ft : ((rows w a).take (j + 1)).foldl jstep [[]] = jstep F r := by
      rw [List.take_add_one, hr, List.foldl_append, hF]; rfl
    show TriF (gAsg _ _ _ [_, _, .va (lotS r), s3]) m' _
    simp_arith []
    rw [tri_compMap (φ := tupI) (ψ := fun l => tupI (lotI (joinP [setOf l, r]))) fun l hl => ⟨_, rfl, fun Q z => by
      obtain ⟨p, e⟩ := fl l hl
      simp_arith []
      have e2 : [tupI l, lotS r] = [setOf l, r].map lotS := by
        subst e
        show [tupI (lotI p), lotS r] = [.tup ((lotI (setOf (lotI p))).map .int), lotS r]
        rw [setOf_lot]
      rw [e2, join_S (by simp)]
      exact z⟩]
    rw [tri_addL]
    have e3 : F.map tupI ++ F.map (fun l => tupI (lotI (joinP [setOf l, r]))) = (F ++ F.map fun l => lotI (joinP [setOf l, r])).map tupI := by rw [List.map_append, List.map_map]; rfl
    rw [e3, ranked_iff (by simp; omega)]
    refine ⟨by simp; omega, rfl, ?_⟩
    rw [ft]
    exact ⟨_, _, rfl⟩
  · obtain ⟨em, s2, s3, eρ⟩ := hI
    subst em eρ
    simp_arith []
    rw [Nat.zero_add, List.take_length]
    exact q
/-- what is joined -/
theorem jfold_mem {l : List Int} : ∀ (qs : List (Nat → Bool)) (F : List (List Int)), AllLots F → (l ∈ qs.foldl jstep F ↔ ∃ x ∈ F, ∃ s : Nat → Bool, l = lotI fun k => setOf x k || (List.range qs.length).any fun i => s i && (qs.getD i fun _ => false) k)
  | [], F, hF => by
    rw [List.foldl_nil]
    constructor
    · intro h
      obtain ⟨p, e⟩ := hF l h
      refine ⟨l, h, fun _ => false, ?_⟩
      subst e
      exact lotI_ext fun k hk => by simp [setOf_at hk]
    · rintro ⟨x, hx, s, e⟩
      obtain ⟨p, e2⟩ := hF x hx
      subst e2
      rw [e]
      rw [lotI_ext (q := p) fun k hk => by simp [setOf_at hk]]
      exact hx
  | q :: qs, F, hF => by
    rw [List.foldl_cons, jfold_mem qs _ (jstep_lots hF)]
    have rng : ∀ (s : Nat → Bool) (k : Nat), ((List.range (q :: qs).length).any fun i => s i && ((q :: qs).getD i fun _ => false) k) = ((s 0 && q k) || (List.range qs.length).any fun i => s (i + 1) && (qs.getD i fun _ => false) k) := fun s k => by
      rw [List.length_cons, List.range_succ_eq_map, List.any_cons, List.any_map]
      rfl
    constructor
    · rintro ⟨x, hx, s, e⟩
      rcases List.mem_append.mp (lsort_mem.mp hx) with z | z
      · refine ⟨x, z, fun i => if i = 0 then false else s (i - 1), ?_⟩
        rw [e]
        refine lotI_ext fun k _ => ?_
        rw [rng]
        simp
      · obtain ⟨y, hy, ey⟩ := List.mem_map.mp z
        subst ey
        refine ⟨y, hy, fun i => if i = 0 then true else s (i - 1), ?_⟩
        rw [e]
        refine lotI_ext fun k hk => ?_
        rw [rng, setOf_at hk]
        simp [joinP, Bool.or_assoc]
    · rintro ⟨x, hx, s, e⟩
      by_cases h0 : s 0 = true
      · refine ⟨lotI (joinP [setOf x, q]), lsort_mem.mpr (List.mem_append.mpr (.inr (List.mem_map.mpr ⟨x, hx, rfl⟩))), fun i => s (i + 1), ?_⟩
        rw [e]
        refine lotI_ext fun k hk => ?_
        rw [rng, setOf_at hk]
        simp [joinP, h0, Bool.or_assoc]
      · refine ⟨x, lsort_mem.mpr (List.mem_append.mpr (.inl hx)), fun i => s (i + 1), ?_⟩
        rw [e]
        refine lotI_ext fun k hk => ?_
        rw [rng]
        simp [h0]
/-- the join of the rows of s -/
def joinR (w : Nat) (a : List (List Bool)) (s : Nat → Bool) (k : Nat) : Bool := (List.range a.length).any fun i => s i && rwP w a i k
theorem joined_mem {l : List Int} : l ∈ joinedL w a ↔ ∃ s : Nat → Bool, l = lotI (joinR w a s) := by
  unfold joinedL
  rw [jfold_mem _ _ lots0]
  have e : ∀ (s : Nat → Bool) (k : Nat), ((List.range (rows w a).length).any fun i => s i && ((rows w a).getD i fun _ => false) k) = joinR w a s k := fun s k => by
    rw [rows_len]
    unfold joinR
    rw [Bool.eq_iff_iff, List.any_eq_true, List.any_eq_true]
    have : ∀ i ∈ List.range a.length, ((rows w a).getD i fun _ => false) = rwP w a i := fun i hi => by
      rw [List.getD_eq_getElem?_getD, rows_get (List.mem_range.mp hi)]; rfl
    exact ⟨fun ⟨i, hi, h⟩ => ⟨i, hi, by rw [this i hi] at h; exact h⟩, fun ⟨i, hi, h⟩ => ⟨i, hi, by rw [this i hi]; exact h⟩⟩
  constructor
  · rintro ⟨x, hx, s, q⟩
    rw [List.mem_singleton.mp hx] at q
    exact ⟨s, by rw [q]; exact lotI_ext fun k _ => by rw [e]; simp [setOf]⟩
  · rintro ⟨s, q⟩
    exact ⟨[], by simp, s, by rw [q]; exact lotI_ext fun k _ => by rw [e]; simp [setOf]⟩
theorem joined_ris : RisL (joinedL w a) := jfold_ris (by simp [RisL])
theorem sub_lt {q r : Nat → Bool} (h : subP q r = true) : lotI q = lotI r ∨ lotLt (lotI q) (lotI r) := by
  rw [subP_iff] at h
  by_cases e : ∀ k, k < 6 → q k = r k
  · exact .inl (lotI_ext e)
  · right
    left
    have : ∃ k, k < 6 ∧ q k = false ∧ r k = true := by
      refine Classical.byContradiction fun n => e fun k hk => ?_
      cases eq : q k with
      | true => exact (h k hk eq).symm
      | false =>
        cases er : r k with
        | false => rfl
        | true => exact absurd ⟨k, hk, eq, er⟩ n
    obtain ⟨k, hk, h1, h2⟩ := this
    have f : lot q = (lot r).filter q := by
      unfold lot
      rw [List.filter_filter]
      refine List.filter_congr fun i hi => ?_
      cases e2 : q i with
      | false => simp
      | true => simp [h i (List.mem_range.mp hi) e2]
    unfold lotI
    rw [List.length_map, List.length_map, f]
    exact List.length_filter_lt_length_iff_exists.mpr ⟨k, lot_mem.mpr ⟨hk, h2⟩, by simp [h1]⟩
end
end Hd
set_option Elab.async false
set_option linter.all false
set_option maxRecDepth 100000
set_option maxHeartbeats 4000000
namespace Hd
open PySem PySem.Spec PyProof.Rows L2 Den
local macro_rules | `(tactic| simp_arith [$xs,*]) => `(tactic| try simp (disch := first | assumption | omega) only [tri_runF, triF_seq, triF_nx, triF_rt, triF_ret, triF_if, triF_asg, triF_exp, aft_nx, aft_rt, fin_rt, fin_nx, tri_pure, tri_fC, tri_gVar, tri_f2, tri_f1, tri_fL, tri_aN, tri_aC, tri_fTup, tri_lDis, tri_fNew, tri_fNot, tri_fAnd, tri_fOr, tri_fIf, tri_tT, tri_t2, tri_tYes, tri_tNo, tri_tAnd, tri_tOr, tri_asB, tri_truB, tri_truI, tri_truL, tri_truT, tri_truN, tri_add, tri_sub, tri_lt, tri_le, tri_gt, tri_ge, tri_int, tri_eqI, tri_neI, tri_iSeq, tri_itsL, tri_itsT, tri_iRan, tri_rangeN, tri_comp, tri_comp2, tri_gProp, tri_gFld, tri_gIsi, tri_lG, tri_iG, tri_enum, tri_tupL, tri_tupT, tri_gCallK, le_lim,
  sx_runF, sx_seq, sx_ret, sx_if, sx_asg, sx_exp, sx_raise, sx_rtOf, aftX_nx, aftX_rt, aftX_rf, aftX_ex, finX_rt, finX_rf, finX_nx, finX_ex, trx_pure, trx_fC, trx_gVar, trx_f2, trx_f1, trx_fL, trx_aN, trx_aC, trx_fTup, trx_lDis, trx_fNew, trx_fNot, trx_fAnd, trx_fOr, trx_fIf, trx_tT, trx_t2, trx_tYes, trx_tNo, trx_tAnd, trx_tOr, trx_asB, trx_truB, trx_truI, trx_truL, trx_truT, trx_truN, trx_add, trx_sub, trx_lt, trx_le, trx_gt, trx_ge, trx_int, trx_eqI, trx_neI, trx_iSeq, trx_itsL, trx_itsT, trx_iRan, trx_rangeN, trx_comp, trx_gProp, trx_gFld, trx_gIsi, trx_lG, trx_iG, trx_enum, trx_tupL, trx_tupT, trx_gCallK, trx_gXa, trx_gIsx,
  kept, List.zip_cons_cons, List.zip_nil_left, List.zip_nil_right, List.reverse_cons, List.reverse_nil, vw, allM, Sl.see, List.map_cons, List.map_nil, List.getElem?_cons_zero, List.getElem?_cons_succ, List.set_cons_zero, List.set_cons_succ, Option.some.injEq, exists_eq_left', List.length_cons, List.length_nil, List.length_map, List.length_range, List.cons_append, List.nil_append, List.append_nil, List.replicate_succ, List.replicate_zero, Nat.reduceSub, Nat.reduceAdd, Nat.reduceEqDiff, Nat.reduceLeDiff, List.isEmpty_nil, Bool.true_or, Bool.not_true, Bool.not_false, true_and, and_true, and_self, if_true, if_false, Bool.false_eq_true, reduceIte, $xs,*])
theorem table_iff {m : SM} {P : D → SM → Prop} {w : Nat} {a : List (List Bool)} (hA : Rect w a) : Tri (den__law_table [gridD a.length w a]) m P ↔ P (tabD w a) m := iff_at fun P q => table_at hA q
theorem shows_iff {m : SM} {P : D → SM → Prop} {w : Nat} {a : List (List Bool)} (hA : Rect w a) : Tri (den__law_shows [tabD w a, gridD a.length w a]) m P ↔ P (.bl true) m := iff_at fun P q => shows_at hA q
theorem ixN_iff {xs : List D} {i : Nat} {d : D} {m : SM} {P : D → SM → Prop} (h : xs[i]? = some d) : Tri (dIx (.lst xs) (.int (i : Nat))) m P ↔ P d m := by
  rw [tri_ixL, Den.atI_nat, h]
  exact ⟨fun ⟨_, h1, h2⟩ => by cases h1; exact h2, fun h => ⟨_, rfl, h⟩⟩
theorem same_iff {x : D} (h : SameT 6 x x) {m : SM} {P : D → SM → Prop} : Tri (den__law_same 6 [x, x]) m P ↔ P (.bl true) m := iff_at fun P q => h m P q
theorem tri_compY {i : Nat} {E : EV → M D} {ρ : EV} {d : D} {ds : List D} {m : SM} {P : List D → SM → Prop} : Tri (compL (eName i) Den.tYes E ρ (d :: ds)) m P ↔ Tri (E (ρ.set i (some d))) m fun y m => Tri (compL (eName i) Den.tYes E ρ ds) m fun r m => P (y :: r) m := by
  rw [tri_compL_cons]
  constructor
  · rintro ⟨ρ1, h1, h2⟩
    cases h1
    rw [tri_tYes, if_pos rfl] at h2
    exact h2
  · intro h
    refine ⟨_, rfl, ?_⟩
    rw [tri_tYes, if_pos rfl]
    exact h
theorem tri_compN {i : Nat} {C : EV → M Bool} {E : EV → M D} {ρ : EV} {m : SM} {P : List D → SM → Prop} : Tri (compL (eName i) C E ρ []) m P ↔ P [] m := by rw [compL, tri_pure]
theorem bare_iff {n : Nat} {d : D} {m : SM} {P : D → SM → Prop} (h : datB n d = true) (hn : n < 6) : Tri (den__law_bare 6 [d]) m P ↔ P d m := iff_at fun P q => bare_at n 6 d h hn q
theorem ner_iff {n : Nat} {d : D} {m : SM} {P : D → SM → Prop} (h : datB n d = true) (hn : n ≤ 60) : Tri (dNe d d) m P ↔ P (.bl false) m := iff_at fun P q => ne_refl h hn q
theorem tri_r2 {m : SM} {P : List D → SM → Prop} : Tri (dRange [.int 2]) m P ↔ P ((List.range 2).map fun i : Nat => D.int (i : Int)) m := tri_rangeN (n := 2) (by omega)
end Hd
set_option Elab.async false
set_option linter.all false
set_option maxRecDepth 100000
set_option maxHeartbeats 4000000
namespace Hd
open PySem PySem.Spec PyProof.Rows L2 Den
local macro_rules | `(tactic| simp_arith [$xs,*]) => `(tactic| try simp (disch := first | assumption | omega) only [tri_runF, triF_seq, triF_nx, triF_rt, triF_ret, triF_if, triF_asg, triF_exp, aft_nx, aft_rt, fin_rt, fin_nx, tri_pure, tri_fC, tri_gVar, tri_f2, tri_f1, tri_fL, tri_aN, tri_aC, tri_fTup, tri_lDis, tri_fNew, tri_fNot, tri_fAnd, tri_fOr, tri_fIf, tri_tT, tri_t2, tri_tYes, tri_tNo, tri_tAnd, tri_tOr, tri_asB, tri_truB, tri_truI, tri_truL, tri_truT, tri_truN, tri_add, tri_sub, tri_lt, tri_le, tri_gt, tri_ge, tri_int, tri_eqI, tri_neI, tri_iSeq, tri_itsL, tri_itsT, tri_iRan, tri_rangeN, tri_comp, tri_comp2, tri_gProp, tri_gFld, tri_gIsi, tri_lG, tri_iG, tri_enum, tri_tupL, tri_tupT, tri_gCallK, le_lim,
  sx_runF, sx_seq, sx_ret, sx_if, sx_asg, sx_exp, sx_raise, sx_rtOf, aftX_nx, aftX_rt, aftX_rf, aftX_ex, finX_rt, finX_rf, finX_nx, finX_ex, trx_pure, trx_fC, trx_gVar, trx_f2, trx_f1, trx_fL, trx_aN, trx_aC, trx_fTup, trx_lDis, trx_fNew, trx_fNot, trx_fAnd, trx_fOr, trx_fIf, trx_tT, trx_t2, trx_tYes, trx_tNo, trx_tAnd, trx_tOr, trx_asB, trx_truB, trx_truI, trx_truL, trx_truT, trx_truN, trx_add, trx_sub, trx_lt, trx_le, trx_gt, trx_ge, trx_int, trx_eqI, trx_neI, trx_iSeq, trx_itsL, trx_itsT, trx_iRan, trx_rangeN, trx_comp, trx_gProp, trx_gFld, trx_gIsi, trx_lG, trx_iG, trx_enum, trx_tupL, trx_tupT, trx_gCallK, trx_gXa, trx_gIsx,
  kept, List.zip_cons_cons, List.zip_nil_left, List.zip_nil_right, List.reverse_cons, List.reverse_nil, vw, allM, Sl.see, List.map_cons, List.map_nil, List.getElem?_cons_zero, List.getElem?_cons_succ, List.set_cons_zero, List.set_cons_succ, Option.some.injEq, exists_eq_left', List.length_cons, List.length_nil, List.length_map, List.length_range, List.cons_append, List.nil_append, List.append_nil, List.replicate_succ, List.replicate_zero, Nat.reduceSub, Nat.reduceAdd, Nat.reduceEqDiff, Nat.reduceLeDiff, List.isEmpty_nil, Bool.true_or, Bool.not_true, Bool.not_false, true_and, and_true, and_self, if_true, if_false, Bool.false_eq_true, reduceIte, $xs,*])
section
variable {w : Nat} {a : List (List Bool)} {m : SM} {P : D → SM → Prop}
theorem ranks_lsort (L : List (List Int)) : Den.ranks L = lsort L := risL_uniq (a := Den.ranks L) (b := lsort L) Den.ranks_ris lsort_ris fun k => Den.ranks_mem.trans lsort_mem.symm
theorem dlots_S (ps : List (Nat → Bool)) : D.lots (ps.map lotS) = some (ps.map lotI) := by
  induction ps with
  | nil => rfl
  | cons p ps ih =>
    rw [List.map_cons, List.map_cons]
    show (match D.ints ((lotI p).map .int) with | some ns => (D.lots (ps.map lotS)).map (ns :: ·) | none => none) = _
    rw [D.ints_map, ih]
    rfl
theorem sortlots_iff {ps : List (Nat → Bool)} {P : List D → SM → Prop} (hl : ps.length < 64) : Tri (dSortLots [.lst (ps.map lotS)]) m P ↔ P ((lsort (ps.map lotI)).map tupI) m := by
  have e : dSortLots [.lst (ps.map lotS)] = pure ((lsort (ps.map lotI)).map tupI) := by
    show dLots1 (ps.map lotS) = _
    unfold dLots1
    rw [dlots_S]
    have h : (ps.map lotI).length < 64 := by rw [List.length_map]; exact hl
    simp only [h, if_true]
    rw [ranks_lsort]
  rw [e, tri_pure]
theorem chk6_S {p : Nat → Bool} : Tri (den_check_lot [lotS p, .int 6]) m P ↔ P .non m := chk_S (w := 6) (p := p) (by omega) fun k hk _ => hk
theorem chks_S (ps : List (Nat → Bool)) : Tri (den__check_lots [.lst (ps.map lotS)]) m P ↔ P .non m := iff_at fun P q => by
  unfold den__check_lots
  rw [tri_runF]
  refine ⟨rfl, ?_⟩
  rw [triF_for]
  simp_arith []
  refine triF_loop (fun j ρ m' => m' = m ∧ ∃ s, ρ = [.va (.lst (ps.map lotS)), s]) _ 0 _ m ⟨rfl, .no, rfl⟩ (fun j d ρ m' hd hI => ?_) (fun ρ m' hI => ?_)
  · obtain ⟨em, s, eρ⟩ := hI
    subst em eρ
    rw [List.getElem?_map] at hd
    obtain ⟨p, hp, e⟩ := Option.map_eq_some_iff.mp hd
    subst e
    refine ⟨_, rfl, ?_⟩
    show TriF (gExp _ [.va (.lst (ps.map lotS)), .va (lotS p)]) m' _
    rw [triF_exp]
    simp_arith [chk6_S]
    exact ⟨_, rfl⟩
  · obtain ⟨em, s, eρ⟩ := hI
    subst em eρ
    rw [fin_nx]
    exact q
theorem chks2 {p q : Nat → Bool} : Tri (den__check_lots [.lst [lotS p, lotS q]]) m P ↔ P .non m := chks_S [p, q]
theorem holds_S {p q : Nat → Bool} : Tri (den_holds [lotS p, lotS q]) m P ↔ P (.bl (subP q p)) m := iff_at fun P h => by
  unfold den_holds
  simp_arith [chks2, has_all_S, triF_exp]
  exact h
theorem sorted_lots_S {ps : List (Nat → Bool)} (hl : ps.length < 64) : Tri (den_sorted_lots [.lst (ps.map lotS)]) m P ↔ P (.lst ((lsort (ps.map lotI)).map tupI)) m := iff_at fun P h => by
  unfold den_sorted_lots
  simp_arith [chks_S, sortlots_iff hl, triF_exp]
  exact h
theorem triF_retF {L : EV → M (List D)} {ρ : SV} {P : Fl → SM → Prop} : TriF (gRetF L ρ) m P ↔ Tri (L (vw (allM ρ) ρ)) m fun ds m => P (.rf ds) m := by
  have e : ∀ (ds : List D) (m : SM), TriF (pure (.rf ds)) m P ↔ P (.rf ds) m := fun ds m => by unfold TriF; exact Iff.rfl
  unfold gRetF
  rw [triF_exB]
  simp only [e]
/-- the join of those strictly beneath -/
def lowP (F : List (List Int)) (l : List Int) : Nat → Bool := joinP ((F.filter fun x => !decide (x = l) && subP (setOf x) (setOf l)).map setOf)
def keepL (F : List (List Int)) (l : List Int) : Bool := !decide (lotI (lowP F l) = l)
theorem tup_set {l : List Int} (h : ∃ p, l = lotI p) : tupI l = lotS (setOf l) := by
  obtain ⟨p, e⟩ := h
  subst e
  show tupI (lotI p) = .tup ((lotI (setOf (lotI p))).map .int)
  rw [setOf_lot]
theorem lots_filter {F : List (List Int)} (h : AllLots F) (c : List Int → Bool) : AllLots (F.filter c) := fun l hl => h l (List.mem_filter.mp hl).1
theorem lower_S {F : List (List Int)} (hF : AllLots F) (hl : F.length ≤ 150) {l : List Int} (el : l ∈ F) : Tri (den__join_of_lower [.lst (F.map tupI), tupI l]) m P ↔ P (tupI (lotI (lowP F l))) m := iff_at fun P h => by
  unfold den__join_of_lower
  simp_arith []
  rw [tri_compFil (φ := tupI) (ψ := tupI) (p := fun x => !decide (x = l) && subP (setOf x) (setOf l)) fun x hx => ⟨_, rfl, fun Q z => by
    simp_arith [ne_tup]
    by_cases e : x = l
    · rw [decide_eq_true e] at *
      simp_arith []
      exact z
    · rw [decide_eq_false e] at *
      simp_arith [tup_set (hF x hx), tup_set (hF l el), holds_S]
      exact z, fun Q _ z => by simp_arith []; exact z⟩]
  rw [tupS (lots_filter hF _)]
  rw [join_all_iff (by rw [List.length_map]; exact Nat.le_trans (List.length_filter_le _ _) hl)]
  exact h
def uL (w : Nat) (a : List (List Bool)) : List (List Int) := lsort ((rows w a).map lotI)
theorem uL_mem {l : List Int} : l ∈ uL w a ↔ ∃ i, i < a.length ∧ l = lotI (rwP w a i) := by
  unfold uL
  rw [lsort_mem, List.mem_map]
  constructor
  · rintro ⟨p, hp, e⟩
    obtain ⟨i, hi, ep⟩ := rows_mem.mp hp
    exact ⟨i, hi, by rw [← e, ep]⟩
  · rintro ⟨i, hi, e⟩
    exact ⟨_, rows_mem.mpr ⟨i, hi, rfl⟩, e.symm⟩
theorem uL_lots : AllLots (uL w a) := fun l hl => by
  obtain ⟨i, _, e⟩ := uL_mem.mp hl
  exact ⟨_, e⟩
theorem uL_len (hA : Rect w a) : (uL w a).length ≤ 6 := by
  have h := hA.high
  have := lsort_len (l := (rows w a).map lotI)
  rw [List.length_map, rows_len] at this
  unfold uL
  omega
def unR (w : Nat) (a : List (List Bool)) : List (List Int) := (uL w a).filter (keepL (uL w a))
theorem unmade_F (hA : Rect w a) {P : List D → SM → Prop} : Tri (denf_unmade_rows [tabD w a]) m P ↔ P ((unR w a).map tupI) m := iff_at fun P h => by
  have h6 := uL_len hA
  have hh := hA.high
  unfold denf_unmade_rows
  rw [tri_runFF]
  refine ⟨rfl, ?_⟩
  rw [triF_seq]
  simp_arith [rowlots_S hA, sorted_lots_S (ps := rows w a) (by rw [rows_len]; omega)]
  rw [triF_retF]
  simp_arith []
  refine ⟨rfl, Nat.le_trans h6 (by omega), ?_⟩
  show Tri (compL _ _ _ _ ((uL w a).map tupI)) m _
  rw [tri_compFil (φ := tupI) (ψ := tupI) (p := keepL (uL w a)) fun l hl => ⟨_, rfl, fun Q z => by
    simp_arith []
    show Tri (den__join_of_lower [.lst ((uL w a).map tupI), tupI l]) m _
    rw [lower_S uL_lots (by omega) hl]
    simp_arith [ne_tup]
    exact z, fun Q _ z => by simp_arith []; exact z⟩]
  exact h
theorem unmade_S (hA : Rect w a) : Tri (den_unmade_rows [tabD w a]) m P ↔ P (.lst ((unR w a).map tupI)) m := iff_at fun P h => by
  have h6 := uL_len hA
  have hh := hA.high
  unfold den_unmade_rows
  rw [tri_runF]
  refine ⟨rfl, ?_⟩
  rw [triF_seq]
  simp_arith [rowlots_S hA, sorted_lots_S (ps := rows w a) (by rw [rows_len]; omega)]
  rw [triF_retF]
  simp_arith []
  refine ⟨rfl, Nat.le_trans h6 (by omega), ?_⟩
  show Tri (compL _ _ _ _ ((uL w a).map tupI)) m _
  rw [tri_compFil (φ := tupI) (ψ := tupI) (p := keepL (uL w a)) fun l hl => ⟨_, rfl, fun Q z => by
    simp_arith []
    show Tri (den__join_of_lower [.lst ((uL w a).map tupI), tupI l]) m _
    rw [lower_S uL_lots (by omega) hl]
    simp_arith [ne_tup]
    exact z, fun Q _ z => by simp_arith []; exact z⟩]
  exact h
end
end Hd
set_option Elab.async false
set_option linter.all false
set_option maxRecDepth 100000
set_option maxHeartbeats 4000000
namespace Hd
open PySem PySem.Spec PyProof.Rows L2 Den
local macro_rules | `(tactic| simp_arith [$xs,*]) => `(tactic| try simp (disch := first | assumption | omega) only [tri_runF, triF_seq, triF_nx, triF_rt, triF_ret, triF_if, triF_asg, triF_exp, aft_nx, aft_rt, fin_rt, fin_nx, tri_pure, tri_fC, tri_gVar, tri_f2, tri_f1, tri_fL, tri_aN, tri_aC, tri_fTup, tri_lDis, tri_fNew, tri_fNot, tri_fAnd, tri_fOr, tri_fIf, tri_tT, tri_t2, tri_tYes, tri_tNo, tri_tAnd, tri_tOr, tri_asB, tri_truB, tri_truI, tri_truL, tri_truT, tri_truN, tri_add, tri_sub, tri_lt, tri_le, tri_gt, tri_ge, tri_int, tri_eqI, tri_neI, tri_iSeq, tri_itsL, tri_itsT, tri_iRan, tri_rangeN, tri_comp, tri_comp2, tri_gProp, tri_gFld, tri_gIsi, tri_lG, tri_iG, tri_enum, tri_tupL, tri_tupT, tri_gCallK, le_lim,
  sx_runF, sx_seq, sx_ret, sx_if, sx_asg, sx_exp, sx_raise, sx_rtOf, aftX_nx, aftX_rt, aftX_rf, aftX_ex, finX_rt, finX_rf, finX_nx, finX_ex, trx_pure, trx_fC, trx_gVar, trx_f2, trx_f1, trx_fL, trx_aN, trx_aC, trx_fTup, trx_lDis, trx_fNew, trx_fNot, trx_fAnd, trx_fOr, trx_fIf, trx_tT, trx_t2, trx_tYes, trx_tNo, trx_tAnd, trx_tOr, trx_asB, trx_truB, trx_truI, trx_truL, trx_truT, trx_truN, trx_add, trx_sub, trx_lt, trx_le, trx_gt, trx_ge, trx_int, trx_eqI, trx_neI, trx_iSeq, trx_itsL, trx_itsT, trx_iRan, trx_rangeN, trx_comp, trx_gProp, trx_gFld, trx_gIsi, trx_lG, trx_iG, trx_enum, trx_tupL, trx_tupT, trx_gCallK, trx_gXa, trx_gIsx,
  kept, List.zip_cons_cons, List.zip_nil_left, List.zip_nil_right, List.reverse_cons, List.reverse_nil, vw, allM, Sl.see, List.map_cons, List.map_nil, List.getElem?_cons_zero, List.getElem?_cons_succ, List.set_cons_zero, List.set_cons_succ, Option.some.injEq, exists_eq_left', List.length_cons, List.length_nil, List.length_map, List.length_range, List.cons_append, List.nil_append, List.append_nil, List.replicate_succ, List.replicate_zero, Nat.reduceSub, Nat.reduceAdd, Nat.reduceEqDiff, Nat.reduceLeDiff, List.isEmpty_nil, Bool.true_or, Bool.not_true, Bool.not_false, true_and, and_true, and_self, if_true, if_false, Bool.false_eq_true, reduceIte, $xs,*])
section
variable {w : Nat} {a : List (List Bool)} {m : SM} {P : D → SM → Prop}
def ujL (w : Nat) (a : List (List Bool)) : List (List Int) := (joinedL w a).filter (keepL (joinedL w a))
theorem joined_lots : AllLots (joinedL w a) := fun l hl => by
  obtain ⟨s, e⟩ := joined_mem.mp hl
  exact ⟨_, e⟩
theorem joined_len (hA : Rect w a) : (joinedL w a).length ≤ 64 := by
  have h6 := hA.high
  have := jfold_len (rows w a) [[]]
  have e : 2 ^ (rows w a).length ≤ 2 ^ 6 := Nat.pow_le_pow_right (by omega) (by rw [rows_len]; omega)
  simp only [List.length_cons, List.length_nil, Nat.zero_add, Nat.mul_one] at this
  have e2 : 2 ^ 6 = 64 := by decide
  unfold joinedL
  omega
theorem set_lot {l : List Int} (h : ∃ p, l = lotI p) : lotI (setOf l) = l := by
  obtain ⟨p, e⟩ := h
  subst e
  exact setOf_lot p
/-- those before l and within it are those strictly within it -/
theorem before_mem {F : List (List Int)} (hF : AllLots F) (hR : RisL F) {k : Nat} {l x : List Int} (hk : F[k]? = some l) : x ∈ (F.take k).filter (fun x => subP (setOf x) (setOf l)) ↔ x ∈ F.filter fun x => !decide (x = l) && subP (setOf x) (setOf l) := by
  obtain ⟨hk1, hk2⟩ := List.getElem?_eq_some_iff.mp hk
  have pw := List.pairwise_iff_getElem.mp hR
  rw [List.mem_filter, List.mem_filter, Bool.and_eq_true, Bool.not_eq_true', decide_eq_false_iff_not]
  constructor
  · rintro ⟨h1, h2⟩
    obtain ⟨i, hi, e⟩ := List.getElem_of_mem h1
    rw [List.length_take] at hi
    rw [List.getElem_take] at e
    have lt := pw i k (by omega) hk1 (by omega)
    refine ⟨List.mem_of_mem_take h1, fun e2 => ?_, h2⟩
    rw [e, hk2, e2] at lt
    exact lotLt_irr l lt
  · rintro ⟨h1, h2, h3⟩
    refine ⟨?_, h3⟩
    obtain ⟨i, hi, e⟩ := List.getElem_of_mem h1
    have hx := set_lot (hF x h1)
    have hl := set_lot (hF l (List.mem_of_getElem? hk))
    have lt : lotLt x l := by
      rcases sub_lt h3 with q | q
      · rw [hx, hl] at q; exact absurd q h2
      · rw [hx, hl] at q; exact q
    have : i < k := by
      rcases Nat.lt_trichotomy i k with q | q | q
      · exact q
      · subst q
        exact absurd (e.symm.trans hk2) h2
      · have z := pw k i hk1 hi q
        rw [hk2, e] at z
        exact absurd (lotLt_trans z lt) (lotLt_irr l)
    rw [List.mem_take_iff_getElem]
    exact ⟨i, by omega, e⟩
theorem joinP_congr {A B : List (List Int)} (h : ∀ x, x ∈ A ↔ x ∈ B) : lotI (joinP (A.map setOf)) = lotI (joinP (B.map setOf)) := lotI_ext fun k _ => by
  unfold joinP
  rw [Bool.eq_iff_iff, List.any_eq_true, List.any_eq_true]
  constructor
  · rintro ⟨p, hp, z⟩
    obtain ⟨x, hx, e⟩ := List.mem_map.mp hp
    exact ⟨p, List.mem_map.mpr ⟨x, (h x).mp hx, e⟩, z⟩
  · rintro ⟨p, hp, z⟩
    obtain ⟨x, hx, e⟩ := List.mem_map.mp hp
    exact ⟨p, List.mem_map.mpr ⟨x, (h x).mpr hx, e⟩, z⟩
theorem joinT {B : List (List Int)} (hB : AllLots B) (hl : B.length ≤ 1000) : Tri (den__law_join [.lst (B.map tupI)]) m P ↔ P (tupI (lotI (joinP (B.map setOf)))) m := by
  rw [tupS hB, join_S (by rw [List.length_map]; omega)]
  exact Iff.rfl
theorem uj_iff (hA : Rect w a) : Tri (den__law_unmade_joins [gridD a.length w a]) m P ↔ P (.lst ((ujL w a).map tupI)) m := iff_at fun P q => by
  have h64 := joined_len hA
  have hL : AllLots (joinedL w a) := joined_lots
  have hRis : RisL (joinedL w a) := joined_ris
  unfold den__law_unmade_joins
  rw [tri_runF]
  refine ⟨rfl, ?_⟩
  rw [triF_seq]
  simp_arith [-aft_nx, joined_iff hA]
  unfold ujL at q
  generalize joinedL w a = F at *
  rw [aft_nx, triF_seq, triF_new]
  simp_arith [-aft_nx]
  rw [aft_nx, triF_seq, triF_for]
  simp_arith [-aft_nx, lst_len]
  refine ⟨rfl, ?_⟩
  refine triF_loop (fun j ρ m' => m' = m ∧ ∃ s3 s4, ρ = [.va (gridD a.length w a), .va (.lst (F.map tupI)), .ow (((F.take j).filter (keepL F)).map tupI), s3, s4, .no]) _ 0 _ m ⟨rfl, .no, .no, rfl⟩ (fun j d ρ m' hd hI => ?_) (fun ρ m' hI => ?_)
  · obtain ⟨em, s3, s4, eρ⟩ := hI
    subst em eρ
    rw [Nat.zero_add] at *
    obtain ⟨hj, ed⟩ := ran_at (n := F.length) hd
    subst ed
    have gF : F[j]? = some F[j] := List.getElem?_eq_getElem hj
    generalize F[j] = l at gF
    have gT : (F.map tupI)[j]? = some (tupI l) := by rw [List.getElem?_map, gF]; rfl
    have lotl := hL l (List.mem_of_getElem? gF)
    refine ⟨_, rfl, ?_⟩
    show TriF (gSeq _ _ [.va (gridD a.length w a), .va (.lst (F.map tupI)), .ow (((F.take j).filter (keepL F)).map tupI), .va (.int (j : Nat)), s4, .no]) m' _
    rw [triF_seq]
    simp_arith [-aft_nx]
    refine slL (xs := F.map tupI) (lo := none) (hi := some (j : Int)) (by rw [tri_gVar]; exact ⟨_, rfl, rfl, rfl⟩) rfl rfl ?_
    rw [cut_take, ← List.map_take]
    refine ⟨by rw [List.length_map, List.length_take]; omega, ?_⟩
    rw [tri_compFil (φ := tupI) (ψ := tupI) (p := fun x => subP (setOf x) (setOf l)) fun x hx => ⟨_, rfl, fun Q z => by
      simp_arith [ixN_iff gT, tup_set (hL x (List.mem_of_mem_take hx)), tup_set lotl, within_S]
      exact z, fun Q _ z => by simp_arith []; exact z⟩]
    have hB : AllLots ((F.take j).filter fun x => subP (setOf x) (setOf l)) := fun x hx => hL x (List.mem_of_mem_take (List.mem_filter.mp hx).1)
    have lB : ((F.take j).filter fun x => subP (setOf x) (setOf l)).length ≤ 1000 := by
      have := List.length_filter_le (fun x => subP (setOf x) (setOf l)) (F.take j)
      rw [List.length_take] at this
      omega
    have eB : lotI (joinP (((F.take j).filter fun x => subP (setOf x) (setOf l)).map setOf)) = lotI (lowP F l) := joinP_congr fun x => before_mem hL hRis gF
    have step : (F.take (j + 1)).filter (keepL F) = (F.take j).filter (keepL F) ++ if keepL F l = true then [l] else [] := by
      rw [List.take_add_one, gF, List.filter_append]
      show _ ++ [l].filter _ = _
      rw [List.filter_cons, List.filter_nil]
    have short : ((F.take j).filter (keepL F)).length ≤ 64 := by
      have := List.length_filter_le (keepL F) (F.take j)
      rw [List.length_take] at this
      omega
    rw [aft_nx]
    simp_arith [joinT hB lB, ixN_iff gT, eB, ne_tup]
    have ek : (!decide (lotI (lowP F l) = l)) = keepL F l := rfl
    rw [ek]
    cases hk : keepL F l with
    | true =>
      rw [hk, if_pos rfl] at step
      simp_arith []
      rw [triF_app]
      refine ⟨_, rfl, ?_⟩
      simp_arith [ixN_iff gT]
      refine ⟨by omega, .va (.int (j : Nat)), .va (.lst (((F.take j).filter fun x => subP (setOf x) (setOf l)).map tupI)), ?_⟩
      rw [step, List.map_append]
      rfl
    | false =>
      rw [hk, if_neg (by simp), List.append_nil] at step
      simp_arith []
      exact ⟨_, _, by rw [step]⟩
  · obtain ⟨em, s3, s4, eρ⟩ := hI
    subst em eρ
    rw [Nat.zero_add, List.length_map, List.length_range, List.take_length]
    rw [aft_nx]
    simp_arith []
    exact q
theorem lowP_at {F : List (List Int)} {l : List Int} {k : Nat} : lowP F l k = true ↔ ∃ x ∈ F, x ≠ l ∧ subP (setOf x) (setOf l) = true ∧ setOf x k = true := by
  unfold lowP joinP
  rw [List.any_eq_true]
  constructor
  · rintro ⟨p, hp, z⟩
    obtain ⟨x, hx, e⟩ := List.mem_map.mp hp
    obtain ⟨h1, h2⟩ := List.mem_filter.mp hx
    rw [Bool.and_eq_true, Bool.not_eq_true', decide_eq_false_iff_not] at h2
    exact ⟨x, h1, h2.1, h2.2, by rw [e]; exact z⟩
  · rintro ⟨x, h1, h2, h3, z⟩
    exact ⟨setOf x, List.mem_map.mpr ⟨x, List.mem_filter.mpr ⟨h1, by rw [Bool.and_eq_true, Bool.not_eq_true', decide_eq_false_iff_not]; exact ⟨h2, h3⟩⟩, rfl⟩, z⟩
theorem sub_eq {x l : List Int} (hx : ∃ p, x = lotI p) (hl : ∃ p, l = lotI p) (h1 : subP (setOf x) (setOf l) = true) (h2 : subP (setOf l) (setOf x) = true) : x = l := by
  rw [← set_lot hx, ← set_lot hl]
  exact lotI_ext fun k hk => by
    have a1 := subP_iff.mp h1 k hk
    have a2 := subP_iff.mp h2 k hk
    rw [Bool.eq_iff_iff]
    exact ⟨a1, a2⟩
/-- a row, as a joined lot -/
theorem row_joined {i : Nat} (hi : i < a.length) : lotI (rwP w a i) ∈ joinedL w a := joined_mem.mpr ⟨fun j => decide (j = i), lotI_ext fun k _ => by
  unfold joinR
  rw [Bool.eq_iff_iff, List.any_eq_true]
  constructor
  · intro z
    exact ⟨i, List.mem_range.mpr hi, by simp [z]⟩
  · rintro ⟨j, _, z⟩
    rw [Bool.and_eq_true, decide_eq_true_eq] at z
    obtain ⟨e, z⟩ := z
    subst e
    exact z⟩
theorem low_same {l : List Int} (hl : l ∈ joinedL w a) : lotI (lowP (uL w a) l) = lotI (lowP (joinedL w a) l) := lotI_ext fun k hk => by
  rw [Bool.eq_iff_iff, lowP_at, lowP_at]
  constructor
  · rintro ⟨x, h1, h2, h3, h4⟩
    obtain ⟨i, hi, e⟩ := uL_mem.mp h1
    exact ⟨x, by rw [e]; exact row_joined hi, h2, h3, h4⟩
  · rintro ⟨x, h1, h2, h3, h4⟩
    obtain ⟨s, e⟩ := joined_mem.mp h1
    have h5 : joinR w a s k = true := by
      rw [e, setOf_at hk] at h4
      exact h4
    unfold joinR at h5
    obtain ⟨i, hi, z⟩ := List.any_eq_true.mp h5
    have hi := List.mem_range.mp hi
    rw [Bool.and_eq_true] at z
    have inx : subP (setOf (lotI (rwP w a i))) (setOf x) = true := subP_iff.mpr fun q hq hz => by
      rw [setOf_at hq] at hz
      rw [e, setOf_at hq]
      unfold joinR
      exact List.any_eq_true.mpr ⟨i, List.mem_range.mpr hi, by rw [Bool.and_eq_true]; exact ⟨z.1, hz⟩⟩
    have inl : subP (setOf (lotI (rwP w a i))) (setOf l) = true := subP_iff.mpr fun q hq hz => subP_iff.mp h3 q hq (subP_iff.mp inx q hq hz)
    refine ⟨lotI (rwP w a i), uL_mem.mpr ⟨i, hi, rfl⟩, fun e2 => h2 ?_, inl, by rw [setOf_at hk]; exact z.2⟩
    exact sub_eq (joined_lots x h1) (joined_lots l hl) h3 (by rw [← e2]; exact inx)
theorem un_uj : unR w a = ujL w a := risL_uniq (show RisL (unR w a) from List.Pairwise.filter _ lsort_ris) (List.Pairwise.filter _ joined_ris) fun l => by
  unfold unR ujL
  rw [List.mem_filter, List.mem_filter]
  have key : l ∈ joinedL w a → keepL (uL w a) l = keepL (joinedL w a) l := fun hl => by
    unfold keepL
    rw [low_same hl]
  constructor
  · rintro ⟨h1, h2⟩
    obtain ⟨i, hi, e⟩ := uL_mem.mp h1
    have hj : l ∈ joinedL w a := by rw [e]; exact row_joined hi
    exact ⟨hj, by rw [← key hj]; exact h2⟩
  · rintro ⟨h1, h2⟩
    refine ⟨?_, by rw [key h1]; exact h2⟩
    refine Classical.byContradiction fun no => ?_
    have h3 : lotI (lowP (uL w a) l) ≠ l := by
      rw [low_same h1]
      unfold keepL at h2
      rwa [Bool.not_eq_true', decide_eq_false_iff_not] at h2
    refine h3 ?_
    obtain ⟨s, e⟩ := joined_mem.mp h1
    refine Eq.trans (lotI_ext fun k hk => ?_) (set_lot (joined_lots l h1))
    rw [Bool.eq_iff_iff, lowP_at]
    constructor
    · rintro ⟨x, g1, g2, g3, g4⟩
      exact subP_iff.mp g3 k hk g4
    · intro g
      have h5 : joinR w a s k = true := by
        rw [e, setOf_at hk] at g
        exact g
      unfold joinR at h5
      obtain ⟨i, hi, z⟩ := List.any_eq_true.mp h5
      have hi := List.mem_range.mp hi
      rw [Bool.and_eq_true] at z
      refine ⟨lotI (rwP w a i), uL_mem.mpr ⟨i, hi, rfl⟩, fun e2 => no (by rw [← e2]; exact uL_mem.mpr ⟨i, hi, rfl⟩), subP_iff.mpr fun q hq hz => ?_, by rw [setOf_at hk]; exact z.2⟩
      rw [setOf_at hq] at hz
      rw [e, setOf_at hq]
      unfold joinR
      exact List.any_eq_true.mpr ⟨i, List.mem_range.mpr hi, by rw [Bool.and_eq_true]; exact ⟨z.1, hz⟩⟩
end
end Hd
set_option Elab.async false
set_option linter.all false
set_option maxRecDepth 100000
set_option maxHeartbeats 4000000
namespace Hd
open PySem PySem.Spec PyProof.Rows L2 Den
local macro_rules | `(tactic| simp_arith [$xs,*]) => `(tactic| try simp (disch := first | assumption | omega) only [tri_runF, triF_seq, triF_nx, triF_rt, triF_ret, triF_if, triF_asg, triF_exp, aft_nx, aft_rt, fin_rt, fin_nx, tri_pure, tri_fC, tri_gVar, tri_f2, tri_f1, tri_fL, tri_aN, tri_aC, tri_fTup, tri_lDis, tri_fNew, tri_fNot, tri_fAnd, tri_fOr, tri_fIf, tri_tT, tri_t2, tri_tYes, tri_tNo, tri_tAnd, tri_tOr, tri_asB, tri_truB, tri_truI, tri_truL, tri_truT, tri_truN, tri_add, tri_sub, tri_lt, tri_le, tri_gt, tri_ge, tri_int, tri_eqI, tri_neI, tri_iSeq, tri_itsL, tri_itsT, tri_iRan, tri_rangeN, tri_comp, tri_comp2, tri_gProp, tri_gFld, tri_gIsi, tri_lG, tri_iG, tri_enum, tri_tupL, tri_tupT, tri_gCallK, le_lim,
  sx_runF, sx_seq, sx_ret, sx_if, sx_asg, sx_exp, sx_raise, sx_rtOf, aftX_nx, aftX_rt, aftX_rf, aftX_ex, finX_rt, finX_rf, finX_nx, finX_ex, trx_pure, trx_fC, trx_gVar, trx_f2, trx_f1, trx_fL, trx_aN, trx_aC, trx_fTup, trx_lDis, trx_fNew, trx_fNot, trx_fAnd, trx_fOr, trx_fIf, trx_tT, trx_t2, trx_tYes, trx_tNo, trx_tAnd, trx_tOr, trx_asB, trx_truB, trx_truI, trx_truL, trx_truT, trx_truN, trx_add, trx_sub, trx_lt, trx_le, trx_gt, trx_ge, trx_int, trx_eqI, trx_neI, trx_iSeq, trx_itsL, trx_itsT, trx_iRan, trx_rangeN, trx_comp, trx_gProp, trx_gFld, trx_gIsi, trx_lG, trx_iG, trx_enum, trx_tupL, trx_tupT, trx_gCallK, trx_gXa, trx_gIsx,
  kept, List.zip_cons_cons, List.zip_nil_left, List.zip_nil_right, List.reverse_cons, List.reverse_nil, vw, allM, Sl.see, List.map_cons, List.map_nil, List.getElem?_cons_zero, List.getElem?_cons_succ, List.set_cons_zero, List.set_cons_succ, Option.some.injEq, exists_eq_left', List.length_cons, List.length_nil, List.length_map, List.length_range, List.cons_append, List.nil_append, List.append_nil, List.replicate_succ, List.replicate_zero, Nat.reduceSub, Nat.reduceAdd, Nat.reduceEqDiff, Nat.reduceLeDiff, List.isEmpty_nil, Bool.true_or, Bool.not_true, Bool.not_false, true_and, and_true, and_self, if_true, if_false, Bool.false_eq_true, reduceIte, $xs,*])
section
variable {w n : Nat} {a : List (List Bool)} {d : D} {m : SM} {P : D → SM → Prop}
theorem lay_tups : ∀ F : List (List Int), PyData.canLayAll0 (F.map fun l => .tuple (l.map .int)) = true ∧ PyData.depthAll (F.map fun l => PyData.tuple (l.map .int)) ≤ 2
  | [] => by simp [PyData.canLayAll0, PyData.depthAll]
  | l :: F => by
    have ⟨h1, h2⟩ := lay_tups F
    have ⟨g1, g2⟩ := lay_ints l
    have hb : (PyData.tuple (l.map .int)).depth ≤ 2 := by rw [PyData.depth]; omega
    have hl : (PyData.tuple (l.map .int)).canLay0 = true := by simpa [PyData.canLay0] using g1
    simp only [List.map_cons, PyData.canLayAll0, PyData.depthAll, h1, hl, Bool.and_self, true_and]
    omega
theorem shaped_tups (F : List (List Int)) : SeqAt.shaped (PyData.list (F.map fun l => .tuple (l.map .int))) = true := by
  have ⟨h1, h2⟩ := lay_tups F
  have l : (PyData.list (F.map fun l => PyData.tuple (l.map .int))).canLay0 = true := by simpa [PyData.canLay0] using h1
  unfold SeqAt.shaped
  have hd : (PyData.list (F.map fun l => PyData.tuple (l.map .int))).depth = PyData.depthAll (F.map fun l => PyData.tuple (l.map .int)) + 1 := by rw [PyData.depth]
  rw [l, Bool.true_and]
  exact decide_eq_true (by omega)
theorem pys_tups : ∀ F : List (List Int), D.pys (F.map tupI) = some (F.map fun l => .tuple (l.map .int))
  | [] => by simp [D.pys]
  | l :: F => by
    rw [List.map_cons, D.pys, pys_tups F, py_tup]
    rfl
theorem inL_tup {x : List Int} {F : List (List Int)} : Tri (dInL (tupI x) (.lst (F.map tupI))) m P ↔ P (.bl (decide (x ∈ F))) m := by
  have e : dInL (tupI x) (.lst (F.map tupI)) = pure (.bl (decide (x ∈ F))) := by
    unfold dInL dInLB
    have e2 : (D.lst (F.map tupI)).py = some (.list (F.map fun l => .tuple (l.map .int))) := by rw [D.py, pys_tups]; rfl
    rw [py_tup, e2]
    simp only [shaped_tup, shaped_tups, Bool.and_self, if_true]
    have e4 : ((F.map fun l => PyData.tuple (l.map .int)).any fun z => PyData.eqv z (.tuple (x.map .int))) = decide (x ∈ F) := by
      rw [List.any_map, Bool.eq_iff_iff, List.any_eq_true, decide_eq_true_iff]
      constructor
      · rintro ⟨q, hq, e⟩
        have e : PyData.eqv (.tuple (q.map .int)) (.tuple (x.map .int)) = true := e
        rw [PyData.eqv, eqv_ints, decide_eq_true_iff] at e
        rw [← e]; exact hq
      · intro hp
        refine ⟨x, hp, ?_⟩
        show PyData.eqv (.tuple (x.map .int)) (.tuple (x.map .int)) = true
        rw [PyData.eqv, eqv_ints]
        simp
    rw [e4]
  rw [e, tri_pure]
theorem turned_iff (hA : Rect w a) : Tri (den_turned [tabD w a]) m P ↔ P (tabD a.length (trn w a)) m := iff_at fun P q => turned_at hA q
theorem turn_iff (hA : Rect w a) : Tri (den__law_turn [gridD a.length w a]) m P ↔ P (gridD w a.length (trn w a)) m := iff_at fun P q => turn_run rfl hA.row (by have := hA.high; omega) (by have := hA.wide; omega) q
theorem unmadeC_F (hA : Rect w a) {P : List D → SM → Prop} : Tri (denf_unmade_columns [tabD w a]) m P ↔ P ((unR a.length (trn w a)).map tupI) m := iff_at fun P h => by
  unfold denf_unmade_columns
  rw [tri_runFF]
  refine ⟨rfl, ?_⟩
  rw [triF_retF]
  simp_arith [turned_iff hA, unmade_F (trn_rect hA)]
  exact h
theorem uj_turn (hA : Rect w a) : Tri (den__law_unmade_joins [gridD w a.length (trn w a)]) m P ↔ P (.lst ((unR a.length (trn w a)).map tupI)) m := by
  have h := uj_iff (m := m) (P := P) (trn_rect hA)
  rw [trn_len, ← un_uj] at h
  exact h
theorem uj_iff2 (hA : Rect w a) : Tri (den__law_unmade_joins [gridD a.length w a]) m P ↔ P (.lst ((unR w a).map tupI)) m := by rw [uj_iff hA, un_uj]
theorem islotP_iff (hw : w ≤ 6) (h : datB n d = true) : Tri (den_is_lot [d, .int (w : Nat)]) m P ↔ P (.bl (lotB w d)) m := iff_at fun P q => is_lot_at hw h q
/-- is_unmade, and the law's own word for it -/
theorem is_unmade_S (hA : Rect w a) (h : datB n d = true) : ∃ b, (∀ (m : SM) (P : D → SM → Prop), Tri (den_is_unmade [tabD w a, d]) m P ↔ P (.bl b) m) ∧ (lotB w d = false → b = false) ∧ (∀ p, d = lotS p → lotB w d = true → b = decide (lotI p ∈ unR w a)) := by
  by_cases hl : lotB w d = true
  · obtain ⟨p, e, hp⟩ := lotB_S hA.wide hl
    refine ⟨decide (lotI p ∈ unR w a), fun m P => iff_at fun P q => ?_, fun z => (by rw [hl] at z; cases z), fun p2 e2 _ => ?_⟩
    · unfold den_is_unmade
      rw [tri_runF]
      refine ⟨rfl, ?_⟩
      simp_arith [width_iff, islotP_iff hA.wide h, isTab, hl]
      rw [e]
      simp_arith [unmade_S hA]
      show Tri (dInL (tupI (lotI p)) _) m _
      rw [inL_tup]
      exact q
    · have : lotI p = lotI p2 := by
        have e3 := e.symm.trans e2
        rw [← lotS_ints, ← lotS_ints, e3]
      rw [this]
  · have hl : lotB w d = false := by simpa using hl
    refine ⟨false, fun m P => iff_at fun P q => ?_, fun _ => rfl, fun p2 _ z => (by rw [hl] at z; cases z)⟩
    unfold den_is_unmade
    rw [tri_runF]
    refine ⟨rfl, ?_⟩
    simp_arith [width_iff, islotP_iff hA.wide h, isTab, hl]
    exact q
end
end Hd
set_option Elab.async false
set_option linter.all false
set_option maxRecDepth 100000
set_option maxHeartbeats 4000000
namespace Hd
open PySem PySem.Spec PyProof.Rows L2 Den
local macro_rules | `(tactic| simp_arith [$xs,*]) => `(tactic| try simp (disch := first | assumption | omega) only [tri_runF, triF_seq, triF_nx, triF_rt, triF_ret, triF_if, triF_asg, triF_exp, aft_nx, aft_rt, fin_rt, fin_nx, tri_pure, tri_fC, tri_gVar, tri_f2, tri_f1, tri_fL, tri_aN, tri_aC, tri_fTup, tri_lDis, tri_fNew, tri_fNot, tri_fAnd, tri_fOr, tri_fIf, tri_tT, tri_t2, tri_tYes, tri_tNo, tri_tAnd, tri_tOr, tri_asB, tri_truB, tri_truI, tri_truL, tri_truT, tri_truN, tri_add, tri_sub, tri_lt, tri_le, tri_gt, tri_ge, tri_int, tri_eqI, tri_neI, tri_iSeq, tri_itsL, tri_itsT, tri_iRan, tri_rangeN, tri_comp, tri_comp2, tri_gProp, tri_gFld, tri_gIsi, tri_lG, tri_iG, tri_enum, tri_tupL, tri_tupT, tri_gCallK, le_lim,
  sx_runF, sx_seq, sx_ret, sx_if, sx_asg, sx_exp, sx_raise, sx_rtOf, aftX_nx, aftX_rt, aftX_rf, aftX_ex, finX_rt, finX_rf, finX_nx, finX_ex, trx_pure, trx_fC, trx_gVar, trx_f2, trx_f1, trx_fL, trx_aN, trx_aC, trx_fTup, trx_lDis, trx_fNew, trx_fNot, trx_fAnd, trx_fOr, trx_fIf, trx_tT, trx_t2, trx_tYes, trx_tNo, trx_tAnd, trx_tOr, trx_asB, trx_truB, trx_truI, trx_truL, trx_truT, trx_truN, trx_add, trx_sub, trx_lt, trx_le, trx_gt, trx_ge, trx_int, trx_eqI, trx_neI, trx_iSeq, trx_itsL, trx_itsT, trx_iRan, trx_rangeN, trx_comp, trx_gProp, trx_gFld, trx_gIsi, trx_lG, trx_iG, trx_enum, trx_tupL, trx_tupT, trx_gCallK, trx_gXa, trx_gIsx,
  kept, List.zip_cons_cons, List.zip_nil_left, List.zip_nil_right, List.reverse_cons, List.reverse_nil, vw, allM, Sl.see, List.map_cons, List.map_nil, List.getElem?_cons_zero, List.getElem?_cons_succ, List.set_cons_zero, List.set_cons_succ, Option.some.injEq, exists_eq_left', List.length_cons, List.length_nil, List.length_map, List.length_range, List.cons_append, List.nil_append, List.append_nil, List.replicate_succ, List.replicate_zero, Nat.reduceSub, Nat.reduceAdd, Nat.reduceEqDiff, Nat.reduceLeDiff, List.isEmpty_nil, Bool.true_or, Bool.not_true, Bool.not_false, true_and, and_true, and_self, if_true, if_false, Bool.false_eq_true, reduceIte, $xs,*])
section
variable {m : SM} {P : D → SM → Prop}
theorem alike_S {p : Nat → Bool} : Tri (den__law_alike [lotS p]) m P ↔ P (.lst [lotS p, .lst ((lot p).map fun i : Nat => D.int (i : Int)), .tup ((lot p).map fun i : Nat => if (i : Int) < 2 then D.bl (decide ((i : Int) = 1)) else .int (i : Int))]) m := iff_at fun P q => by
  have hl := lot_len p
  unfold den__law_alike
  simp_arith [its_S]
  rw [tri_compMap (φ := fun i : Nat => D.int (i : Int)) (ψ := fun i : Nat => D.int (i : Int)) fun i hi => ⟨_, rfl, fun Q z => by simp_arith []; exact z⟩]
  simp_arith [its_S]
  rw [tri_compMap (φ := fun i : Nat => D.int (i : Int)) (ψ := fun i : Nat => if (i : Int) < 2 then D.bl (decide ((i : Int) = 1)) else .int (i : Int)) fun i hi => ⟨_, rfl, fun Q z => by
    by_cases h : (i : Int) < 2
    · rw [if_pos h] at z
      simp_arith [decide_eq_true h]
      exact z
    · rw [if_neg h] at z
      simp_arith [decide_eq_false h]
      exact z⟩]
  simp_arith []
  exact q
theorem alike_dat {p : Nat → Bool} : ∀ v ∈ [lotS p, .lst ((lot p).map fun i : Nat => D.int (i : Int)), .tup ((lot p).map fun i : Nat => if (i : Int) < 2 then D.bl (decide ((i : Int) = 1)) else .int (i : Int))], datB 3 v = true := fun v hv => by
  have hl := lot_len p
  rcases List.mem_cons.mp hv with e | hv
  · rw [e]; exact datB_up (datB_up (lotS_dat p))
  rcases List.mem_cons.mp hv with e | hv
  · rw [e]
    refine datB_lst.mpr ⟨by rw [List.length_map]; omega, fun x hx => ?_⟩
    obtain ⟨i, _, e⟩ := List.mem_map.mp hx
    rw [← e]; exact int_dat _ _
  · rw [List.mem_singleton.mp hv]
    refine datB_tup.mpr ⟨by rw [List.length_map]; omega, fun x hx => ?_⟩
    obtain ⟨i, _, e⟩ := List.mem_map.mp hx
    rw [← e]
    split
    · exact bl_dat _ _
    · exact int_dat _ _
theorem lot6_S (hm : SI m) (h : ∀ m' (p : Nat → Bool), SI m' → P (lotS p) m') : Tri (den__law_lot [.sto, .int 6]) m P := lot_S (w := 6) hm (by omega) fun m' p s _ => h m' p s
theorem values_at {G R : List D} (hm : SI m) (both : ∀ i : Nat, i < 2 → ∃ (w : Nat) (a : List (List Bool)), Rect w a ∧ G[i]? = some (gridD a.length w a) ∧ R[i]? = some (.lst ((unR w a).map tupI)))
    (hP : ∀ m' V, SI m' → V.length ≤ 100 → (∀ v ∈ V, datB 3 v = true) → P (.lst V) m') : Tri (den__law_values [.sto, .lst G, .lst R]) m P := by
  unfold den__law_values
  rw [tri_runF]
  refine ⟨rfl, ?_⟩
  rw [triF_seq, triF_new]
  obtain ⟨w0, a0, A0, g0, r0⟩ := both 0 (by omega)
  have g0' : ∀ {m : SM} {Q : D → SM → Prop}, Tri (dIx (.lst G) (.int 0)) m Q ↔ Q (gridD a0.length w0 a0) m := fun {m Q} => ixN_iff (i := 0) g0
  simp_arith [-aft_nx]
  refine lot6_S hm fun m1 p s1 => ?_
  simp_arith [-aft_nx, g0', grid2]
  refine near_at s1 A0.wide fun m2 v s2 hv => ?_
  refine ⟨rfl, ?_⟩
  rw [aft_nx, triF_seq, triF_for]
  simp_arith [-aft_nx, tri_r2]
  refine triF_loop (fun j ρ m' => SI m' ∧ ∃ V s4 s5, V.length ≤ 3 + 5 * j ∧ (∀ v ∈ V, datB 3 v = true) ∧ ρ = [.va .sto, .va (.lst G), .va (.lst R), .ow V, s4, s5]) _ 0 _ m2 ⟨s2, [.tup [], lotS p, v], .no, .no, by simp, fun x hx => ?_, rfl⟩ (fun j d ρ m' hd hI => ?_) (fun ρ m' hI => ?_)
  · rcases List.mem_cons.mp hx with e | hx
    · rw [e]; rfl
    rcases List.mem_cons.mp hx with e | hx
    · rw [e]; exact datB_up (datB_up (lotS_dat p))
    · rw [List.mem_singleton.mp hx]; exact hv
  · obtain ⟨sm, V, s4, s5, lV, dV, eρ⟩ := hI
    subst eρ
    obtain ⟨hj, ed⟩ := ran_at (n := 2) hd
    subst ed
    obtain ⟨w, a, A, gG, gR⟩ := both j hj
    have h6 := A.high
    have u6 : (unR w a).length ≤ 6 := Nat.le_trans (List.length_filter_le _ _) (uL_len A)
    refine ⟨_, rfl, ?_⟩
    show TriF (gSeq _ _ [.va .sto, .va (.lst G), .va (.lst R), .ow V, .va (.int (j : Nat)), s5]) m' _
    rw [triF_seq]
    simp_arith [-aft_nx, ixN_iff gG, lots_S A]
    rw [aft_nx, triF_seq, triF_app]
    refine ⟨V, rfl, ?_⟩
    simp_arith [-aft_nx, join_S (ps := rows w a) (by rw [rows_len]; omega)]
    refine ⟨by omega, ?_⟩
    have last : ∀ (V2 : List D) (m3 : SM), SI m3 → V2.length ≤ 3 + 5 * j + 2 → (∀ v ∈ V2, datB 3 v = true) → TriF (gIf (t2 dGt (fL dLen (aC (f2 dIx (gVar 2) (gVar 4)) aN)) (fC (.int 0))) (gGrow 3 (fL den__law_alike (aC (fL den__law_pick (aC (gVar 0) (aC (f2 dIx (gVar 2) (gVar 4)) aN))) aN))) (fun ρ => pure (.nx ρ)) [.va .sto, .va (.lst G), .va (.lst R), .ow V2, .va (.int (j : Nat)), .va (.lst ((rows w a).map lotS))]) m3 fun f m' => match f with
        | .nx ρ' => SI m' ∧ ∃ V s4 s5, V.length ≤ 3 + 5 * (0 + j + 1) ∧ (∀ v ∈ V, datB 3 v = true) ∧ ρ' = [.va .sto, .va (.lst G), .va (.lst R), .ow V, s4, s5]
        | _ => False := fun V2 m3 s3 l2 d2 => by
      rw [triF_if]
      simp_arith [ixN_iff gR, lst_len]
      by_cases hz : (unR w a).length = 0
      · rw [decide_eq_false (by omega)]
        simp_arith []
        exact ⟨s3, V2, _, _, by omega, d2, rfl⟩
      · rw [decide_eq_true (by omega)]
        simp_arith []
        unfold gGrow
        show TriF (exB _ _ _) m3 _
        rw [triF_exB]
        simp_arith [ixN_iff gR]
        refine pick_at s3 (by intro e; rw [List.map_eq_nil_iff] at e; rw [e] at hz; exact hz rfl) (by rw [List.length_map]; omega) fun m4 d s4' hd => ?_
        obtain ⟨l, hl, e⟩ := List.mem_map.mp hd
        obtain ⟨q, eq⟩ := uL_lots l (List.mem_filter.mp hl).1
        subst eq e
        show Tri (den__law_alike [lotS q]) m4 _
        rw [alike_S]
        show TriF (do lim _; pure _) m4 _
        rw [triF_lim, triF_nx]
        refine ⟨by simp; omega, s4', _, _, _, ?_, fun v hv => ?_, rfl⟩
        · simp; omega
        · rcases List.mem_append.mp hv with h | h
          · exact d2 v h
          · exact alike_dat v h
    have dV1 : ∀ v ∈ V ++ [lotS (joinP (rows w a))], datB 3 v = true := fun v hv => by
      rcases List.mem_append.mp hv with h | h
      · exact dV v h
      · rw [List.mem_singleton.mp h]; exact datB_up (datB_up (lotS_dat _))
    rw [aft_nx, triF_seq, triF_if]
    simp_arith [-aft_nx, lst_len]
    have dL : ∀ q : Nat → Bool, datB 3 (lotS q) = true := fun q => datB_up (datB_up (lotS_dat q))
    by_cases hz : (rows w a).length = 0
    · rw [decide_eq_false (by omega), if_neg (by simp), aft_nx]
      refine (last _ _ sm (by simp; omega) dV1).mono fun f m' z => ?_
      match f, z with
      | .nx ρ', z => exact z
    · rw [decide_eq_true (by omega), if_pos rfl, triF_app]
      refine ⟨_, rfl, ?_⟩
      simp_arith [-aft_nx]
      refine pick_at sm (by intro e; rw [List.map_eq_nil_iff] at e; rw [e] at hz; exact hz rfl) (by rw [List.length_map, rows_len]; omega) fun m4 d s4' hd => ?_
      obtain ⟨q, hq, e⟩ := List.mem_map.mp hd
      subst e
      refine ⟨by simp; omega, ?_⟩
      rw [aft_nx]
      refine (last _ _ s4' (by simp; omega) fun v hv => ?_).mono fun f m' z => ?_
      · rcases List.mem_append.mp hv with h | h
        · exact dV1 v h
        · rw [List.mem_singleton.mp h]; exact dL q
      · match f, z with
        | .nx ρ', z => exact z
  · obtain ⟨sm, V, s4, s5, lV, dV, eρ⟩ := hI
    subst eρ
    rw [aft_nx]
    simp_arith []
    exact hP m' V sm (by rw [List.length_map, List.length_range] at lV; omega) dV
end
end Hd
set_option Elab.async false
set_option linter.all false
set_option maxRecDepth 100000
set_option maxHeartbeats 4000000
namespace Hd
open PySem PySem.Spec PyProof.Rows L2 Den
local macro_rules | `(tactic| simp_arith [$xs,*]) => `(tactic| try simp (disch := first | assumption | omega) only [tri_runF, triF_seq, triF_nx, triF_rt, triF_ret, triF_if, triF_asg, triF_exp, aft_nx, aft_rt, fin_rt, fin_nx, tri_pure, tri_fC, tri_gVar, tri_f2, tri_f1, tri_fL, tri_aN, tri_aC, tri_fTup, tri_lDis, tri_fNew, tri_fNot, tri_fAnd, tri_fOr, tri_fIf, tri_tT, tri_t2, tri_tYes, tri_tNo, tri_tAnd, tri_tOr, tri_asB, tri_truB, tri_truI, tri_truL, tri_truT, tri_truN, tri_add, tri_sub, tri_lt, tri_le, tri_gt, tri_ge, tri_int, tri_eqI, tri_neI, tri_iSeq, tri_itsL, tri_itsT, tri_iRan, tri_rangeN, tri_comp, tri_comp2, tri_gProp, tri_gFld, tri_gIsi, tri_lG, tri_iG, tri_enum, tri_tupL, tri_tupT, tri_gCallK, le_lim,
  sx_runF, sx_seq, sx_ret, sx_if, sx_asg, sx_exp, sx_raise, sx_rtOf, aftX_nx, aftX_rt, aftX_rf, aftX_ex, finX_rt, finX_rf, finX_nx, finX_ex, trx_pure, trx_fC, trx_gVar, trx_f2, trx_f1, trx_fL, trx_aN, trx_aC, trx_fTup, trx_lDis, trx_fNew, trx_fNot, trx_fAnd, trx_fOr, trx_fIf, trx_tT, trx_t2, trx_tYes, trx_tNo, trx_tAnd, trx_tOr, trx_asB, trx_truB, trx_truI, trx_truL, trx_truT, trx_truN, trx_add, trx_sub, trx_lt, trx_le, trx_gt, trx_ge, trx_int, trx_eqI, trx_neI, trx_iSeq, trx_itsL, trx_itsT, trx_iRan, trx_rangeN, trx_comp, trx_gProp, trx_gFld, trx_gIsi, trx_lG, trx_iG, trx_enum, trx_tupL, trx_tupT, trx_gCallK, trx_gXa, trx_gIsx,
  kept, List.zip_cons_cons, List.zip_nil_left, List.zip_nil_right, List.reverse_cons, List.reverse_nil, vw, allM, Sl.see, List.map_cons, List.map_nil, List.getElem?_cons_zero, List.getElem?_cons_succ, List.set_cons_zero, List.set_cons_succ, Option.some.injEq, exists_eq_left', List.length_cons, List.length_nil, List.length_map, List.length_range, List.cons_append, List.nil_append, List.append_nil, List.replicate_succ, List.replicate_zero, Nat.reduceSub, Nat.reduceAdd, Nat.reduceEqDiff, Nat.reduceLeDiff, List.isEmpty_nil, Bool.true_or, Bool.not_true, Bool.not_false, true_and, and_true, and_self, if_true, if_false, Bool.false_eq_true, reduceIte, $xs,*])
theorem triF_own {i : Nat} {f : List D → List D} {ρ : SV} {m : SM} {P : Fl → SM → Prop} {xs : List D} (hi : ρ[i]? = some (.ow xs)) (q : P (.nx (ρ.set i (.ow (f xs)))) m) : TriF (gOwn i f ρ) m P := by
  unfold gOwn
  rw [hi]
  show TriF (pure (.nx (ρ.set i (.ow (f xs))))) m P
  rw [triF_nx]
  exact q
theorem tri_lGK {g : List D → M (List D)} {Ak : EV → M (List D)} {k : Nat} {pl : List Nat} {ρ : EV} {m : SM} {P : List D → SM → Prop} : Tri (lGK g Ak k pl ρ) m P ↔ Tri (Ak ρ) m fun es m => es.length = k ∧ Tri (g (pick pl es)) m P := by
  unfold lGK
  simp only [tri_bind, tri_need, decide_eq_true_eq]
theorem same_tups (F : List (List Int)) (h1 : F.length ≤ 1000) (h2 : ∀ l ∈ F, l.length ≤ 1000) : SameT 6 (.lst (F.map tupI)) (.lst (F.map tupI)) := same_lst (n := 5) (by rw [List.length_map]; exact h1) fun x hx => by
  obtain ⟨l, hl, e⟩ := List.mem_map.mp hx
  subst e
  refine same_tup (n := 4) (by rw [List.length_map]; exact h2 l hl) fun y hy => ?_
  obtain ⟨k, _, e⟩ := List.mem_map.mp hy
  rw [← e]; exact same_int _
theorem unR_len {w : Nat} {a : List (List Bool)} (hA : Rect w a) : (unR w a).length ≤ 6 := Nat.le_trans (List.length_filter_le _ _) (uL_len hA)
theorem same_unR {w : Nat} {a : List (List Bool)} (hA : Rect w a) : SameT 6 (.lst ((unR w a).map tupI)) (.lst ((unR w a).map tupI)) := same_tups _ (by have := unR_len hA; omega) fun l hl => by
  obtain ⟨p, e⟩ := uL_lots l (List.mem_filter.mp hl).1
  rw [e]
  have := lotI_len p
  omega
theorem pure_rest (ns : List Int) (h : ns.length ≤ 63) : ∃ m', rest_law (sv0 N_law.length 1 ns) ⟨ns, [0, 0, 0, 0, 314159265358, 0]⟩ = .ok (.rt (.bl true)) m' := by
  have hm : SI ⟨ns, [0, 0, 0, 0, 314159265358, 0]⟩ := ⟨0, 0, 0, 0, 314159265358, 0, rfl, by decide⟩
  have key : TriF (rest_law (sv0 N_law.length 1 ns)) ⟨ns, [0, 0, 0, 0, 314159265358, 0]⟩ fun f m' => f = .rt (.bl true) := by
    generalize (⟨ns, [0, 0, 0, 0, 314159265358, 0]⟩ : SM) = m at hm
    unfold rest_law sv0 N_law
    rw [triF_seq]
    simp_arith [-aft_nx]
    refine world_at hm fun m1 w1 a1 s1 A1 => world_at s1 fun m2 w2 a2 s2 A2 => ?_
    simp_arith [-aft_nx]
    rw [aft_nx, triF_seq]
    simp_arith [-aft_nx, tri_compY, tri_compN, table_iff A1, table_iff A2]
    rw [aft_nx, triF_seq]
    simp_arith [-aft_nx, tri_compY, tri_compN, uj_iff2 A1, uj_iff2 A2]
    rw [aft_nx, triF_seq]
    simp_arith [-aft_nx, tri_compY, tri_compN, turn_iff A1, turn_iff A2, uj_turn A1, uj_turn A2]
    have both : ∀ i : Nat, i < 2 → ∃ (w : Nat) (a : List (List Bool)), Rect w a ∧ [gridD a1.length w1 a1, gridD a2.length w2 a2][i]? = some (gridD a.length w a) ∧ [tabD w1 a1, tabD w2 a2][i]? = some (tabD w a) ∧ [D.lst ((unR w1 a1).map tupI), D.lst ((unR w2 a2).map tupI)][i]? = some (.lst ((unR w a).map tupI)) ∧
        [D.lst ((unR a1.length (trn w1 a1)).map tupI), D.lst ((unR a2.length (trn w2 a2)).map tupI)][i]? = some (.lst ((unR a.length (trn w a)).map tupI)) := fun i hi => by
      have : i = 0 ∨ i = 1 := by omega
      rcases this with e | e <;> subst e
      · exact ⟨w1, a1, A1, rfl, rfl, rfl, rfl⟩
      · exact ⟨w2, a2, A2, rfl, rfl, rfl, rfl⟩
    generalize [gridD a1.length w1 a1, gridD a2.length w2 a2] = G at both
    generalize [tabD w1 a1, tabD w2 a2] = M at both
    generalize [D.lst ((unR w1 a1).map tupI), D.lst ((unR w2 a2).map tupI)] = R at both
    generalize [D.lst ((unR a1.length (trn w1 a1)).map tupI), D.lst ((unR a2.length (trn w2 a2)).map tupI)] = C at both
    rw [aft_nx, triF_seq, triF_for]
    simp_arith [-aft_nx, tri_r2]
    refine triF_loop (fun j ρ m' => m' = m2 ∧ ∃ s6 s8 s11, ρ = [.va (.scr ns), .va .sto, .va (.lst G), .va (.lst M), .va (.lst R), .va (.lst C), s6, .no, s8, .no, .no, s11, .no]) _ 0 _ m2 ⟨rfl, .no, .no, .no, rfl⟩ (fun j d ρ m' hd hI => ?_) (fun ρ m' hI => ?_)
    · obtain ⟨em, s6, s8, s11, eρ⟩ := hI
      subst em eρ
      obtain ⟨hj, ed⟩ := ran_at (n := 2) hd
      subst ed
      refine ⟨_, rfl, ?_⟩
      show TriF (gFor _ _ _ [.va (.scr ns), .va .sto, .va (.lst G), .va (.lst M), .va (.lst R), .va (.lst C), .va (.int (j : Nat)), .no, s8, .no, .no, s11, .no]) m' _
      rw [triF_for]
      simp_arith [-aft_nx, tri_r2]
      refine triF_loop (fun _ ρ m'' => m'' = m' ∧ ∃ s8 s11, ρ = [.va (.scr ns), .va .sto, .va (.lst G), .va (.lst M), .va (.lst R), .va (.lst C), .va (.int (j : Nat)), .no, s8, .no, .no, s11, .no]) _ 0 _ m' ⟨rfl, _, _, rfl⟩ (fun j2 d2 ρ m'' hd2 hI => ?_) (fun ρ m'' hI => ?_)
      · obtain ⟨em, s8, s11, eρ⟩ := hI
        subst em eρ
        obtain ⟨hj2, ed2⟩ := ran_at (n := 2) hd2
        subst ed2
        obtain ⟨w, a, A, gG, gM, gR, gC⟩ := both j2 hj2
        have sR := same_unR A
        have sC := same_unR (trn_rect A)
        have lR := unR_len A
        refine ⟨_, rfl, ?_⟩
        show TriF (gSeq _ _ [.va (.scr ns), .va .sto, .va (.lst G), .va (.lst M), .va (.lst R), .va (.lst C), .va (.int (j : Nat)), .no, .va (.int (j2 : Nat)), .no, .no, s11, .no]) m'' _
        rw [triF_seq, triF_new]
        simp_arith [-aft_nx, ixN_iff gM, unmade_F A]
        refine ⟨rfl, ?_⟩
        rw [aft_nx, triF_seq]
        have tail : TriF (gSeq (gIf (tNo (tT (fL (den__law_same 6) (aC (gVar 11) (aC (f2 dIx (gVar 4) (gVar 8)) aN))))) (gRet (fC (.bl false))) (fun ρ => pure (.nx ρ))) (gSeq (gApp 11 [] (fTup (aC (fC (.int 0)) (aC (fC (.int 1)) (aC (fC (.int 2)) (aC (fC (.int 3)) (aC (fC (.int 4)) (aC (fC (.int 5)) aN)))))))) (gSeq (gOwn 11 List.reverse) (gSeq (gNew 11 [] (lG denf_unmade_columns (aC (f2 dIx (gVar 3) (gVar 8)) aN))) (gSeq (gIf (tNo (tT (fL (den__law_same 6) (aC (gVar 11) (aC (f2 dIx (gVar 5) (gVar 8)) aN))))) (gRet (fC (.bl false))) (fun ρ => pure (.nx ρ))) (gOwn 11 fun _ => [])))))
            [.va (.scr ns), .va .sto, .va (.lst G), .va (.lst M), .va (.lst R), .va (.lst C), .va (.int (j : Nat)), .no, .va (.int (j2 : Nat)), .no, .no, .ow ((unR w a).map tupI), .no]) m'' fun f m' => match f with
            | .nx ρ' => m' = m'' ∧ ∃ s8 s11, ρ' = [.va (.scr ns), .va .sto, .va (.lst G), .va (.lst M), .va (.lst R), .va (.lst C), .va (.int (j : Nat)), .no, s8, .no, .no, s11, .no]
            | _ => False := by
          rw [triF_seq, triF_if]
          simp_arith [-aft_nx, ixN_iff gR, same_iff sR]
          rw [aft_nx, triF_seq, triF_app]
          refine ⟨_, rfl, ?_⟩
          simp_arith [-aft_nx]
          refine ⟨by omega, ?_⟩
          rw [aft_nx, triF_seq]
          refine triF_own rfl ?_
          rw [aft_nx, triF_seq, triF_new]
          simp_arith [-aft_nx, ixN_iff gM, unmadeC_F A]
          refine ⟨rfl, ?_⟩
          rw [aft_nx, triF_seq, triF_if]
          simp_arith [-aft_nx, ixN_iff gC, same_iff sC]
          rw [aft_nx]
          refine triF_own rfl ?_
          exact ⟨rfl, _, _, rfl⟩
        rw [triF_if]
        simp_arith [-aft_nx]
        by_cases hj1 : (j : Int) = 1
        · rw [decide_eq_true hj1, if_pos rfl, triF_new]
          simp_arith [-aft_nx, tri_lGK, ixN_iff gM]
          show Tri (denf_unmade_rows [tabD w a]) m'' _
          rw [unmade_F A]
          refine ⟨rfl, ?_⟩
          rw [aft_nx]
          refine tail.mono fun f m' z => ?_
          match f, z with
          | .nx ρ', z => exact z
        · rw [decide_eq_false hj1, if_neg (by simp), aft_nx]
          refine tail.mono fun f m' z => ?_
          match f, z with
          | .nx ρ', z => exact z
      · obtain ⟨em, s8, s11, eρ⟩ := hI
        subst em eρ
        exact ⟨rfl, _, _, _, rfl⟩
    · obtain ⟨em, s6, s8, s11, eρ⟩ := hI
      subst em eρ
      rw [aft_nx, triF_seq, triF_for]
      simp_arith [-aft_nx]
      refine values_at s2 (fun i hi => by obtain ⟨w, a, A, g, _, r, _⟩ := both i hi; exact ⟨w, a, A, g, r⟩) fun m3 V s3 lV dV => ?_
      simp_arith [-aft_nx]
      refine triF_loop (fun j ρ m' => m' = m3 ∧ ∃ s7 s8 s9 s12, ρ = [.va (.scr ns), .va .sto, .va (.lst G), .va (.lst M), .va (.lst R), .va (.lst C), s6, s7, s8, s9, .no, s11, s12]) _ 0 _ m3 ⟨rfl, .no, s8, .no, .no, rfl⟩ (fun j v ρ m' hv hI => ?_) (fun ρ m' hI => ?_)
      · obtain ⟨em, s7, s8', s9, s12, eρ⟩ := hI
        subst em eρ
        have hdv := dV v (List.mem_of_getElem? hv)
        refine ⟨_, rfl, ?_⟩
        show TriF (gSeq _ _ [.va (.scr ns), .va .sto, .va (.lst G), .va (.lst M), .va (.lst R), .va (.lst C), s6, .va v, s8', s9, .no, s11, s12]) m' _
        rw [triF_seq]
        simp_arith [-aft_nx, bare_iff hdv (by omega)]
        rw [aft_nx, triF_seq, triF_for]
        simp_arith [-aft_nx, tri_r2]
        refine triF_loop (fun _ ρ m'' => m'' = m' ∧ ∃ s8 s12, ρ = [.va (.scr ns), .va .sto, .va (.lst G), .va (.lst M), .va (.lst R), .va (.lst C), s6, .va v, s8, .va v, .no, s11, s12]) _ 0 _ m' ⟨rfl, _, _, rfl⟩ (fun j2 d2 ρ m'' hd2 hI => ?_) (fun ρ m'' hI => ?_)
        · obtain ⟨em, t8, t12, eρ⟩ := hI
          subst em eρ
          obtain ⟨hj2, ed2⟩ := ran_at (n := 2) hd2
          subst ed2
          obtain ⟨w, a, A, gG, gM, gR, gC⟩ := both j2 hj2
          obtain ⟨b, hb, hb1, hb2⟩ := is_unmade_S A hdv
          refine ⟨_, rfl, ?_⟩
          show TriF (gSeq _ _ [.va (.scr ns), .va .sto, .va (.lst G), .va (.lst M), .va (.lst R), .va (.lst C), s6, .va v, .va (.int (j2 : Nat)), .va v, .no, s11, t12]) m'' _
          rw [triF_seq]
          have due : ∀ (ρ : EV) (Q : D → SM → Prop), ρ[2]? = some (some (.lst G)) → ρ[4]? = some (some (.lst R)) → ρ[7]? = some (some v) → ρ[8]? = some (some (.int (j2 : Nat))) → Q (.bl b) m'' → Tri (fAnd (fL den__law_is_lot (aC (gVar 7) (aC (f2 dIx (f2 dIx (gVar 2) (gVar 8)) (fC (.int 2))) aN))) (f2 dInL (gVar 7) (f2 dIx (gVar 4) (gVar 8))) ρ) m'' Q := fun ρ Q h2 h4 h7 h8 q => by
            simp only [tri_fAnd, tri_fL, tri_aC, tri_aN, tri_f2, tri_gVar, tri_fC, h2, h4, h7, h8, Option.some.injEq, exists_eq_left', ixN_iff gG, ixN_iff gR, grid2, islot_iff hdv]
            by_cases hl : lotB w v = true
            · obtain ⟨p, e, _⟩ := lotB_S A.wide hl
              have hb3 := hb2 p e hl
              rw [hl]
              simp_arith []
              rw [e]
              show Tri (dInL (tupI (lotI p)) _) _ _
              rw [inL_tup, ← hb3]
              exact q
            · have hl : lotB w v = false := by simpa using hl
              have hb3 := hb1 hl
              rw [hl]
              simp_arith []
              rw [hb3] at q
              exact q
          rw [triF_asg]
          refine due _ _ rfl rfl rfl rfl ⟨rfl, ?_⟩
          rw [aft_nx, triF_if]
          simp_arith [ixN_iff gM, hb, same_iff (same_bl _)]
          exact ⟨_, _, rfl⟩
        · obtain ⟨em, t8, t12, eρ⟩ := hI
          subst em eρ
          rw [aft_nx]
          simp_arith [ner_iff hdv (by omega)]
          exact ⟨_, _, _, _, rfl⟩
      · obtain ⟨em, s7, s8', s9, s12, eρ⟩ := hI
        subst em eρ
        rw [aft_nx]
        simp_arith [tri_r2]
        rw [tri_compMap (φ := fun i : Nat => .int (i : Int)) (ψ := fun _ => .bl true) fun i hi => ⟨_, rfl, fun Q z => by
          obtain ⟨w, a, A, gG, gM, _, _⟩ := both i (List.mem_range.mp hi)
          simp_arith [ixN_iff gM, ixN_iff gG, shows_iff A]
          exact z⟩]
        rw [allB, tri_all, allT]
  obtain ⟨m', e⟩ := triF_run key
  exact ⟨m', e⟩
end Hd
set_option Elab.async false
set_option linter.all false
set_option maxRecDepth 100000
set_option maxHeartbeats 0
open PySem PySem.W PySem.Calls PyProof.Rows
theorem PySem.Challenge.cw_greatestback_k23_unmade_rows_holds : PySem.Challenge.rw_greatestback_k23_unmade_rows.Holds := by
  w_on; o_law
  refine HandSHeadRun.head_any (r := Hd.R) (q := view Hd.R.prog [70]) (H := Hd.hg) (ob := Hd.ob) (M := 9000) (loose := Hd.loose) (d := HandSHeadRun.topDef Hd.R.prog 70) (kwd := []) Hd.ob_eq
    (by kernel_rfl) (fun s => by kernel_rfl) Hd.run (by kernel_rfl) (by kernel_rfl) (by kernel_rfl) (by rfl) (by first | assumption | decide +kernel) (by decide +kernel) ⟨rfl, rfl, rfl, rfl, rfl, by decide +kernel⟩ ?hw ?hc
  case hw => w_witness2
  case hc =>
    refine Den.walk_X (law := PySem.Challenge.rw_greatestback_k23_unmade_rows) (most := 63) (lev := 11) (par := "script") (Cx0 := fun w => L2N.CX (PySem.Challenge.rw_greatestback_k23_unmade_rows).prog w) rfl (by decide) (by kernel_rfl) ⟨rfl, by decide, by decide⟩ ?F (fun w H st e st' z => Den.no_CX w H st e st' z)
    intro w mg fl hp Y G hm
    obtain ⟨K, KX, c⟩ := Y
    have hmg : mg ("law" : PySem.Str) = some (.ref fl) := by
      have e : (HandSHeadRun.topDef Hd.R.prog 70).name = ("law" : PySem.Str) := by kernel_rfl
      rw [← e]
      exact hm
    obtain ⟨fd, hb, hF⟩ := Hd.facts (P := (PySem.Challenge.rw_greatestback_k23_unmade_rows).prog) (w := w) KX G hmg c Hd.pure_first Hd.pure_rest
    exact ⟨K, fd, Den.spLaw K, KX, hb, fun H ad nums hl hO hS => ⟨ad, nums, rfl, hl, hO, hS, fun _ => rfl⟩, hF⟩
