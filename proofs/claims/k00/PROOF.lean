import PyProof.Rows.All
import Wide.All
import OpenK.AllK
import Wide.FinOn
import HandS.ForMost
import HandS.ForExc
import HandS.Evl
import HandS.IsInst
import HandS.SetKeys
import HandS.Deep
import HandS.Wide
import HandS.More
import HandS.TupAny
import PyProof.StrOps2
import PySem.Challenge.RW_fourmet_k00_is_name
set_option Elab.async false
set_option linter.all false
set_option maxRecDepth 100000
set_option maxHeartbeats 2000000
namespace DL
open PySem PySem.Spec L2
abbrev Ex := Evl.Ex
/-- a pure value -/
inductive D where
  | non | bl (b : Bool) | int (i : Int) | str (s : Str) | tup (xs : List D) | lst (xs : List D) | obj (C : Addr) (ns : List Str) (xs : List D) | ty (n : String) | cls (C : Addr)
mutual
def Rep (K : PySem.W.Frag) (F : Hp) : D → V → Prop
  | .non, v => v = .non
  | .bl b, v => v = .bl b
  | .int i, v => v = .int i
  | .str s, v => v = .str s
  | .tup xs, v => ∃ a vs, v = .ref a ∧ SqT K F a vs ∧ RepL K F xs vs
  | .lst xs, v => ∃ a vs, v = .ref a ∧ F a = some (.lst vs) ∧ RepL K F xs vs
  | .obj C ns xs, v => ∃ a dx vs, v = .ref a ∧ F a = some (.ins C dx (ns.zip vs)) ∧ ns.length = vs.length ∧ RepL K F xs vs
  | .ty n, v => v = .ty n
  | .cls C, v => v = .ref C
def RepL (K : PySem.W.Frag) (F : Hp) : List D → List V → Prop
  | [], vs => vs = []
  | d :: ds, vs => ∃ v r, vs = v :: r ∧ Rep K F d v ∧ RepL K F ds r
end
mutual
/-- no list stands in it -/
def lf : D → Bool
  | .lst _ => false
  | .tup xs => lfL xs
  | .obj _ _ xs => lfL xs
  | _ => true
def lfL : List D → Bool
  | [] => true
  | d :: ds => lf d && lfL ds
end
section
variable {K : PySem.W.Frag} {F F' : Hp}
mutual
theorem Rep.mono (e : Ex F F') : ∀ {d : D} {v : V}, Rep K F d v → Rep K F' d v
  | .non, _, h => by simpa only [Rep] using h
  | .bl _, _, h => by simpa only [Rep] using h
  | .int _, _, h => by simpa only [Rep] using h
  | .str _, _, h => by simpa only [Rep] using h
  | .tup xs, _, h => by
    simp only [Rep] at h ⊢
    obtain ⟨a, vs, h1, h2, h3⟩ := h
    exact ⟨a, vs, h1, Evl.ex_t e h2, RepL.mono e h3⟩
  | .lst xs, _, h => by
    simp only [Rep] at h ⊢
    obtain ⟨a, vs, h1, h2, h3⟩ := h
    exact ⟨a, vs, h1, e _ _ h2, RepL.mono e h3⟩
  | .obj C ns xs, _, h => by
    simp only [Rep] at h ⊢
    obtain ⟨a, dx, vs, h1, h2, h3, h4⟩ := h
    exact ⟨a, dx, vs, h1, e _ _ h2, h3, RepL.mono e h4⟩
  | .ty _, _, h => by simpa only [Rep] using h
  | .cls _, _, h => by simpa only [Rep] using h
theorem RepL.mono (e : Ex F F') : ∀ {d : List D} {v : List V}, RepL K F d v → RepL K F' d v
  | [], _, h => by simpa only [RepL] using h
  | d :: ds, _, h => by
    simp only [RepL] at h ⊢
    obtain ⟨v, r, h1, h2, h3⟩ := h
    exact ⟨v, r, h1, Rep.mono e h2, RepL.mono e h3⟩
end
/-- F' knows F's tuples and instances: enough for what has no list -/
def Tx (F F' : Hp) : Prop := ∀ a o, F a = some o → (∃ xs, o = .lst xs) ∨ (∃ u xs, o = .frz u (.lst xs)) ∨ F' a = some o
theorem tx_t {a : Addr} {xs : List V} (e : Tx F F') (h : SqT K F a xs) : SqT K F' a xs := by
  rcases h with h | h
  · rcases h with h | ⟨o, h⟩
    · rcases e _ _ h with ⟨_, z⟩ | ⟨_, _, z⟩ | z
      · cases z
      · cases z
      · exact .inl (.inl z)
    · rcases e _ _ h with ⟨_, z⟩ | ⟨_, _, z⟩ | z
      · cases z
      · cases z
      · exact .inl (.inr ⟨o, z⟩)
  · exact .inr h
mutual
theorem Rep.lf (e : Tx F F') : ∀ {d : D} {v : V}, lf d = true → Rep K F d v → Rep K F' d v
  | .non, _, _, h => by simpa only [Rep] using h
  | .bl _, _, _, h => by simpa only [Rep] using h
  | .int _, _, _, h => by simpa only [Rep] using h
  | .str _, _, _, h => by simpa only [Rep] using h
  | .tup xs, _, l, h => by
    simp only [Rep] at h ⊢
    simp only [DL.lf] at l
    obtain ⟨a, vs, h1, h2, h3⟩ := h
    exact ⟨a, vs, h1, tx_t e h2, RepL.lf e l h3⟩
  | .lst xs, _, l, h => by simp [DL.lf] at l
  | .obj C ns xs, _, l, h => by
    simp only [Rep] at h ⊢
    simp only [DL.lf] at l
    obtain ⟨a, dx, vs, h1, h2, h3, h4⟩ := h
    refine ⟨a, dx, vs, h1, ?_, h3, RepL.lf e l h4⟩
    rcases e _ _ h2 with ⟨_, z⟩ | ⟨_, _, z⟩ | z
    · cases z
    · cases z
    · exact z
  | .ty _, _, _, h => by simpa only [Rep] using h
  | .cls _, _, _, h => by simpa only [Rep] using h
theorem RepL.lf (e : Tx F F') : ∀ {d : List D} {v : List V}, lfL d = true → RepL K F d v → RepL K F' d v
  | [], _, _, h => by simpa only [RepL] using h
  | d :: ds, _, l, h => by
    simp only [RepL] at h ⊢
    simp only [DL.lfL, Bool.and_eq_true] at l
    obtain ⟨v, r, h1, h2, h3⟩ := h
    exact ⟨v, r, h1, Rep.lf e l.1 h2, RepL.lf e l.2 h3⟩
end
theorem RepL.length : ∀ {ds : List D} {vs : List V}, RepL K F ds vs → ds.length = vs.length
  | [], _, h => by simp only [RepL] at h; subst h; rfl
  | d :: ds, _, h => by
    simp only [RepL] at h
    obtain ⟨v, r, rfl, _, h3⟩ := h
    simp [RepL.length h3]
theorem RepL.get : ∀ {ds : List D} {vs : List V} {i : Nat} {d : D}, RepL K F ds vs → ds[i]? = some d → ∃ v, vs[i]? = some v ∧ Rep K F d v
  | [], _, _, _, _, e => by simp at e
  | d :: ds, _, 0, _, h, e => by
    simp only [RepL] at h
    obtain ⟨v, r, rfl, h2, h3⟩ := h
    simp at e
    subst e
    exact ⟨v, rfl, h2⟩
  | d :: ds, _, i + 1, _, h, e => by
    simp only [RepL] at h
    obtain ⟨v, r, rfl, h2, h3⟩ := h
    simpa using RepL.get h3 (by simpa using e)
theorem RepL.back : ∀ {ds : List D} {vs : List V} {i : Nat} {v : V}, RepL K F ds vs → vs[i]? = some v → ∃ d, ds[i]? = some d ∧ Rep K F d v
  | [], _, _, _, h, e => by simp only [RepL] at h; subst h; simp at e
  | d :: ds, _, 0, _, h, e => by
    simp only [RepL] at h
    obtain ⟨v, r, rfl, h2, h3⟩ := h
    simp at e
    subst e
    exact ⟨d, rfl, h2⟩
  | d :: ds, _, i + 1, _, h, e => by
    simp only [RepL] at h
    obtain ⟨v, r, rfl, h2, h3⟩ := h
    simpa using RepL.back h3 (by simpa using e)
theorem RepL.append : ∀ {ds es : List D} {vs ws : List V}, RepL K F ds vs → RepL K F es ws → RepL K F (ds ++ es) (vs ++ ws)
  | [], _, _, _, h, k => by simp only [RepL] at h; subst h; simpa using k
  | d :: ds, _, _, _, h, k => by
    simp only [RepL] at h
    obtain ⟨v, r, rfl, h2, h3⟩ := h
    simp only [List.cons_append, RepL]
    exact ⟨v, r ++ _, rfl, h2, RepL.append h3 k⟩
theorem RepL.drop : ∀ {ds : List D} {vs : List V} (n : Nat), RepL K F ds vs → RepL K F (ds.drop n) (vs.drop n)
  | _, _, 0, h => by simpa using h
  | [], _, n + 1, h => by simp only [RepL] at h; subst h; simp [RepL]
  | d :: ds, _, n + 1, h => by
    simp only [RepL] at h
    obtain ⟨v, r, rfl, h2, h3⟩ := h
    simpa using RepL.drop n h3
theorem RepL.take : ∀ {ds : List D} {vs : List V} (n : Nat), RepL K F ds vs → RepL K F (ds.take n) (vs.take n)
  | _, _, 0, h => by simp [RepL]
  | [], _, n + 1, h => by simp only [RepL] at h; subst h; simp [RepL]
  | d :: ds, _, n + 1, h => by
    simp only [RepL] at h
    obtain ⟨v, r, rfl, h2, h3⟩ := h
    simp only [List.take_succ_cons, RepL]
    exact ⟨v, r.take n, rfl, h2, RepL.take n h3⟩
theorem RepL.set : ∀ {ds : List D} {vs : List V} {d : D} {v : V} (n : Nat), RepL K F ds vs → Rep K F d v → RepL K F (ds.set n d) (vs.set n v)
  | [], _, _, _, n, h, _ => by simp only [RepL] at h; subst h; simp [RepL]
  | d :: ds, _, _, _, 0, h, k => by
    simp only [RepL] at h
    obtain ⟨v, r, rfl, h2, h3⟩ := h
    simp only [List.set_cons_zero, RepL]
    exact ⟨_, r, rfl, k, h3⟩
  | d :: ds, _, _, _, n + 1, h, k => by
    simp only [RepL] at h
    obtain ⟨v, r, rfl, h2, h3⟩ := h
    simp only [List.set_cons_succ, RepL]
    exact ⟨v, _, rfl, h2, RepL.set n h3 k⟩
theorem repL_nil {vs : List V} : RepL K F [] vs ↔ vs = [] := by simp only [RepL]
theorem repL_cons {d : D} {ds : List D} {vs : List V} : RepL K F (d :: ds) vs ↔ ∃ v r, vs = v :: r ∧ Rep K F d v ∧ RepL K F ds r := by simp only [RepL]
theorem repL_strs : ∀ {ss : List Str} {vs : List V}, RepL K F (ss.map D.str) vs ↔ vs = ss.map V.str
  | [], vs => by simp only [List.map_nil, RepL]
  | s :: ss, vs => by
    simp only [List.map_cons, RepL, Rep]
    constructor
    · rintro ⟨v, r, rfl, rfl, h⟩
      rw [repL_strs.mp h]
    · rintro rfl
      exact ⟨_, _, rfl, rfl, repL_strs.mpr rfl⟩
theorem repL_ints : ∀ {ss : List Int} {vs : List V}, RepL K F (ss.map D.int) vs ↔ vs = ss.map V.int
  | [], vs => by simp only [List.map_nil, RepL]
  | s :: ss, vs => by
    simp only [List.map_cons, RepL, Rep]
    constructor
    · rintro ⟨v, r, rfl, rfl, h⟩
      rw [repL_ints.mp h]
    · rintro rfl
      exact ⟨_, _, rfl, rfl, repL_ints.mpr rfl⟩
theorem repL_bls : ∀ {ss : List Bool} {vs : List V}, RepL K F (ss.map D.bl) vs ↔ vs = ss.map V.bl
  | [], vs => by simp only [List.map_nil, RepL]
  | s :: ss, vs => by
    simp only [List.map_cons, RepL, Rep]
    constructor
    · rintro ⟨v, r, rfl, rfl, h⟩
      rw [repL_bls.mp h]
    · rintro rfl
      exact ⟨_, _, rfl, rfl, repL_bls.mpr rfl⟩
end

/-! ### the store of the draws -/
structure StoreAt (K : PySem.W.Frag) (st : Addr) (T : Nat) (F H : Hp) : Prop where
  free : F st = none
  at' : ∃ (c : Addr) (ns : List Int) (i r sd t : Int), H st = some (.lst [.ref c, .int i, .int r, .int sd, .int t]) ∧ (∃ o : Obj, F c = some (.frz o (.lst (ns.map V.int)))) ∧ ns.length ≤ 63 ∧ 0 ≤ i ∧ 0 ≤ r ∧ 0 ≤ sd ∧ sd < 2147483648 ∧ 0 ≤ t
theorem StoreAt.up {K : PySem.W.Frag} {st : Addr} {T T' : Nat} {F H : Hp} (h : StoreAt K st T F H) (l : T ≤ T') : StoreAt K st T' F H := ⟨h.free, by
  exact h.at'⟩
theorem StoreAt.any {K : PySem.W.Frag} {st : Addr} {T T' : Nat} {F H : Hp} (h : StoreAt K st T F H) : StoreAt K st T' F H := ⟨h.free, h.at'⟩
theorem StoreAt.some {K : PySem.W.Frag} {st : Addr} {T : Nat} {F H : Hp} (h : StoreAt K st T F H) : H st ≠ none := by
  obtain ⟨c, ns, i, r, sd, t, h1, _⟩ := h.at'
  rw [h1]
  exact fun z => nomatch z
theorem StoreAt.to {K : PySem.W.Frag} {st : Addr} {T : Nat} {F H F' H' : Hp} (h : StoreAt K st T F H) (e : Ex F F') (k : H' st = H st) (f : F' st = none) : StoreAt K st T F' H' := ⟨f, by
  obtain ⟨c, ns, i, r, sd, t, h1, ⟨o, h2⟩, h3⟩ := h.at'
  exact ⟨c, ns, i, r, sd, t, k.trans h1, ⟨o, e _ _ h2⟩, h3⟩⟩

/-! ### slots and results -/
inductive SV where
  | val (d : D) | own (xs : List D) | sto
inductive RV where
  | val (d : D) | own (xs : List D) | bor (xs : List D) | sto
abbrev En := List (Option SV)

/-- (F, H) has grown to (F', H') : only the store has changed -/
structure Grow (st : Addr) (F H F' H' : Hp) : Prop where
  ff : Ex F F'
  fh : Ex F' H'
  hh : ∀ b x, b ≠ st → H b = some x → H' b = some x
  nf : ∀ b, F b = none → H b ≠ none → F' b = none
  sf : F' st = none
theorem Grow.refl {st : Addr} {F H : Hp} (e : Ex F H) (s : F st = none) : Grow st F H F H := ⟨Evl.Ex.refl F, e, fun _ _ _ h => h, fun _ h _ => h, s⟩
theorem Grow.trans {st : Addr} {F H F1 H1 F2 H2 : Hp} (a : Grow st F H F1 H1) (b : Grow st F1 H1 F2 H2) : Grow st F H F2 H2 :=
  ⟨a.ff.trans b.ff, b.fh, fun c x n h => b.hh c x n (a.hh c x n h), fun c f h => by
    by_cases e : c = st
    · rw [e]; exact b.sf
    · refine b.nf c (a.nf c f h) fun z => ?_
      cases q : H c with
      | none => exact h q
      | some x =>
        rw [a.hh c x e q] at z
        exact (nomatch z), b.sf⟩

/-- the def's ground: the written part, the store's address, what was frozen and tracked at its entry -/
structure G where
  K : PySem.W.Frag
  st : Addr
  F0 : Hp
  H0 : Hp

/-- a list of our own at a, not known ahead of Hs -/
structure OwnAt (g : G) (Hs F H : Hp) (a : Addr) (xs : List D) : Prop where
  ns : a ≠ g.st
  new : Hs a = none
  nf : F a = none
  at' : ∃ vs, H a = some (.lst vs) ∧ RepL g.K F xs vs
def NotOwn (env : En) (σ : St) (a : Addr) : Prop := ∀ (i : Nat) (xs : List D), env[i]? = some (some (.own xs)) → σ[i]? ≠ some (some (.ref a))
structure Ok (g : G) (T : Nat) (F : Hp) (env : En) (σ : St) (H : Hp) : Prop where
  grow : Grow g.st g.F0 g.H0 F H
  sto : StoreAt g.K g.st T F H
  len : σ.length = env.length
  val : ∀ (i : Nat) (d : D), env[i]? = some (some (.val d)) → ∃ v, σ[i]? = some (some v) ∧ Rep g.K F d v
  stor : ∀ (i : Nat), env[i]? = some (some .sto) → σ[i]? = some (some (.ref g.st))
  own : ∀ (i : Nat) (xs : List D), env[i]? = some (some (.own xs)) → ∃ a, σ[i]? = some (some (.ref a)) ∧ OwnAt g g.H0 F H a xs
  dis : ∀ (i j : Nat) (xs ys : List D), i ≠ j → env[i]? = some (some (.own xs)) → env[j]? = some (some (.own ys)) → σ[i]? ≠ σ[j]?
def RepR (g : G) (Hs F H : Hp) (env : En) (σ : St) : RV → V → Prop
  | .val d, v => Rep g.K F d v
  | .sto, v => v = .ref g.st
  | .own xs, v => ∃ a, v = .ref a ∧ OwnAt g Hs F H a xs ∧ NotOwn env σ a
  | .bor xs, v => ∃ i : Nat, env[i]? = some (some (.own xs)) ∧ σ[i]? = some (some v)

theorem OwnAt.grow {g : G} {Hs F H F' H' : Hp} {a : Addr} {xs : List D} (h : OwnAt g Hs F H a xs) (w : Grow g.st F H F' H') : OwnAt g Hs F' H' a xs := by
  obtain ⟨vs, h1, h2⟩ := h.at'
  exact ⟨h.ns, h.new, w.nf a h.nf (by rw [h1]; exact fun z => nomatch z), vs, w.hh a _ h.ns h1, RepL.mono w.ff h2⟩
theorem Ok.up {g : G} {T T' : Nat} {F H : Hp} {env : En} {σ : St} (h : Ok g T F env σ H) (l : T ≤ T') : Ok g T' F env σ H := ⟨h.grow, h.sto.up l, h.len, h.val, h.stor, h.own, h.dis⟩
theorem Ok.fh {g : G} {T : Nat} {F H : Hp} {env : En} {σ : St} (h : Ok g T F env σ H) : Ex F H := h.grow.fh
theorem Ok.refl {g : G} {T : Nat} {F H : Hp} {env : En} {σ : St} (h : Ok g T F env σ H) : Grow g.st F H F H := Grow.refl h.fh h.sto.free
/-- a grown state is a state -/
theorem Ok.grown {g : G} {T T' : Nat} {F H F' H' : Hp} {env : En} {σ : St} (h : Ok g T F env σ H) (w : Grow g.st F H F' H') (s : StoreAt g.K g.st T' F' H') : Ok g T' F' env σ H' :=
  ⟨h.grow.trans w, s, h.len, fun i d e => by
    obtain ⟨v, a, b⟩ := h.val i d e
    exact ⟨v, a, b.mono w.ff⟩, h.stor, fun i xs e => by
    obtain ⟨a, b, c⟩ := h.own i xs e
    exact ⟨a, b, c.grow w⟩, h.dis⟩
/-- something new was laid: not frozen, or frozen -/
theorem Grow.new {st : Addr} {F H : Hp} {p : Addr} {o : HO} (e : Ex F H) (s : F st = none) (h : H p = none) : Grow st F H F (upd H p o) :=
  ⟨Evl.Ex.refl F, e.trans (Evl.Ex.new h), fun b x _ q => Evl.Ex.new h b x q, fun _ q _ => q, s⟩
theorem Grow.newF {st : Addr} {F H : Hp} {p : Addr} {o : HO} (e : Ex F H) (s : F st = none) (hs : H st ≠ none) (h : H p = none) : Grow st F H (upd F p o) (upd H p o) := by
  have fp : F p = none := Evl.fresh_back e h
  have ne : st ≠ p := fun z => hs (by rw [z]; exact h)
  refine ⟨Evl.Ex.new fp, fun b x q => ?_, fun b x _ q => Evl.Ex.new h b x q, fun b q r => ?_, ?_⟩
  · by_cases z : b = p
    · subst z
      rw [upd_same] at q ⊢
      exact q
    · rw [upd_ne z] at q ⊢
      exact e b x q
  · by_cases z : b = p
    · subst z
      exact absurd h r
    · rw [upd_ne z]
      exact q
  · rw [upd_ne ne]
    exact s
theorem StoreAt.new {K : PySem.W.Frag} {st : Addr} {T : Nat} {F H : Hp} {p : Addr} {o : HO} (s : StoreAt K st T F H) (h : H p = none) : StoreAt K st T F (upd H p o) :=
  s.to (Evl.Ex.refl F) (upd_ne fun z => s.some (by rw [z]; exact h)) s.free
theorem StoreAt.newF {K : PySem.W.Frag} {st : Addr} {T : Nat} {F H : Hp} {p : Addr} {o : HO} (e : Ex F H) (s : StoreAt K st T F H) (h : H p = none) : StoreAt K st T (upd F p o) (upd H p o) := by
  have ne : st ≠ p := fun z => s.some (by rw [z]; exact h)
  exact s.to (Evl.Ex.new (Evl.fresh_back e h)) (upd_ne ne) (by rw [upd_ne ne]; exact s.free)
section
variable {g : G} {T T' : Nat} {Hs F H F' H' : Hp} {env : En} {σ : St} {r : RV} {v : V} {p : Addr}
theorem Ok.new {o : HO} (k : Ok g T F env σ H) (h : H p = none) : Ok g T F env σ (upd H p o) := k.grown (Grow.new k.fh k.sto.free h) (k.sto.new h)
theorem Ok.newF {o : HO} (k : Ok g T F env σ H) (h : H p = none) : Ok g T (upd F p o) env σ (upd H p o) := k.grown (Grow.newF k.fh k.sto.free k.sto.some h) (k.sto.newF k.fh h)
theorem Ok.notOwn (k : Ok g T F env σ H) (h : H p = none) : NotOwn env σ p := fun i xs e q => by
  obtain ⟨a, h1, h2⟩ := k.own i xs e
  obtain ⟨vs, h3, _⟩ := h2.at'
  rw [h1] at q
  cases q
  rw [h] at h3
  cases h3
theorem RepR.grow (h : RepR g Hs F H env σ r v) (w : Grow g.st F H F' H') : RepR g Hs F' H' env σ r v := by
  cases r with
  | val d => exact Rep.mono w.ff h
  | sto => exact h
  | own xs =>
    obtain ⟨a, h1, h2, h3⟩ := h
    exact ⟨a, h1, h2.grow w, h3⟩
  | bor xs => exact h
/-- new since later: new since earlier -/
theorem OwnAt.since {Hr Fr : Hp} {a : Addr} {xs : List D} (w : Grow g.st Fr Hr F' Hs) (h : OwnAt g Hs F H a xs) : OwnAt g Hr F H a xs := by
  refine ⟨h.ns, ?_, h.nf, h.at'⟩
  cases q : Hr a with
  | none => rfl
  | some x =>
    have z := w.hh a x h.ns q
    rw [h.new] at z
    exact nomatch z
theorem RepR.since {Hr Fr : Hp} (w : Grow g.st Fr Hr F' Hs) (h : RepR g Hs F H env σ r v) : RepR g Hr F H env σ r v := by
  cases r with
  | val d => exact h
  | sto => exact h
  | own xs =>
    obtain ⟨a, h1, h2, h3⟩ := h
    exact ⟨a, h1, h2.since w, h3⟩
  | bor xs => exact h
/-- a list of our own that was just made -/
theorem RepR.made {xs : List D} {vs : List V} (k : Ok g T F env σ H) (h : H p = none) (r : RepL g.K F xs vs) : RepR g H F (upd H p (.lst vs)) env σ (.own xs) (.ref p) :=
  ⟨p, rfl, ⟨fun z => k.sto.some (by rw [← z]; exact h), h, Evl.fresh_back k.fh h, vs, upd_same, r⟩, k.notOwn h⟩
/-- freeze a list that was made since Hs -/
theorem RepR.freeze {Fs : Hp} {xs : List D} (w0 : Grow g.st g.F0 g.H0 Fs Hs) (w : Grow g.st Fs Hs F H) (k : Ok g T F env σ H) (h : RepR g Hs F H env σ (.own xs) v) :
    ∃ F', Grow g.st Fs Hs F' H ∧ Ok g T F' env σ H ∧ Rep g.K F' (.lst xs) v ∧ Ex F F' := by
  obtain ⟨a, rfl, o, h3⟩ := h
  have n0 := (o.since w0).new
  obtain ⟨n1, n2, n3, vs, n4, n5⟩ := o
  have ef : Ex F (upd F a (.lst vs)) := Evl.Ex.new n3
  have eh : Ex (upd F a (.lst vs)) H := fun b x q => by
    by_cases z : b = a
    · subst z
      rw [upd_same] at q
      cases q
      exact n4
    · rw [upd_ne z] at q
      exact k.fh b x q
  have gr : ∀ {Fr Hr : Hp}, Hr a = none → Grow g.st Fr Hr F H → Grow g.st Fr Hr (upd F a (.lst vs)) H := fun hn w => ⟨w.ff.trans ef, eh, w.hh, fun b q r => by
    have ne : b ≠ a := fun z => r (by rw [z]; exact hn)
    rw [upd_ne ne]
    exact w.nf b q r, by
    rw [upd_ne n1.symm]
    exact w.sf⟩
  refine ⟨upd F a (.lst vs), gr n2 w, ⟨gr n0 k.grow, k.sto.to ef rfl (by rw [upd_ne n1.symm]; exact k.sto.free), k.len, fun i d e => ?_, k.stor, fun i ys e => ?_, k.dis⟩, ?_, ef⟩
  · obtain ⟨v, a, b⟩ := k.val i d e
    exact ⟨v, a, b.mono ef⟩
  · obtain ⟨b, e1, e2⟩ := k.own i ys e
    have ne : b ≠ a := fun z => h3 i ys e (by rw [← z]; exact e1)
    obtain ⟨vs', e3, e4⟩ := e2.at'
    exact ⟨b, e1, e2.ns, e2.new, by rw [upd_ne ne]; exact e2.nf, vs', e3, e4.mono ef⟩
  · simp only [Rep]
    exact ⟨a, vs, rfl, upd_same, n5.mono ef⟩
end
end DL

namespace DL
open PySem PySem.Spec L2
/-- an exception of an own class, its attributes -/
structure Exc where
  C : Addr
  ns : List Str
  xs : List D
def RepX (K : PySem.W.Frag) (F : Hp) (x : Exc) (d : Option Addr) : Prop := (x.ns = [] ∧ x.xs = [] ∧ d = none) ∨ ∃ dd vs, d = some dd ∧ F dd = some (.xd (x.ns.zip vs)) ∧ x.ns.length = vs.length ∧ RepL K F x.xs vs
abbrev ED := En → (RV → Prop) → (Exc → Prop) → Prop
abbrev TD := En → (Bool → Prop) → (Exc → Prop) → Prop
abbrev AD := En → (List RV → Prop) → (Exc → Prop) → Prop
def MonoE {α : Type} (f : En → (α → Prop) → (Exc → Prop) → Prop) : Prop := ∀ env Q Q' E E', (∀ r, Q r → Q' r) → (∀ x, E x → E' x) → f env Q E → f env Q' E'
def okE (g : G) (T c : Nat) (F : Hp) (env : En) (σ : St) (H : Hp) (Q : VK) : RV → Prop := fun r => ∀ F' H' v, Grow g.st F H F' H' → Ok g (T + c) F' env σ H' → RepR g H F' H' env σ r v → Q v H'
def okT (g : G) (T c : Nat) (F : Hp) (env : En) (σ : St) (H : Hp) (Q : Bool → Hp → Prop) : Bool → Prop := fun r => ∀ F' H', Grow g.st F H F' H' → Ok g (T + c) F' env σ H' → Q r H'
def RepRs (g : G) (Hs F H : Hp) (env : En) (σ : St) : List RV → List V → Prop
  | [], vs => vs = []
  | r :: rs, vs => ∃ v w, vs = v :: w ∧ RepR g Hs F H env σ r v ∧ RepRs g Hs F H env σ rs w
def okA (g : G) (T c : Nat) (F : Hp) (env : En) (σ : St) (H : Hp) (Q : List V → Hp → Prop) : List RV → Prop := fun rs => ∀ F' H' vs, Grow g.st F H F' H' → Ok g (T + c) F' env σ H' → RepRs g H F' H' env σ rs vs → Q vs H'
def exE (g : G) (T c : Nat) (F : Hp) (env : En) (σ : St) (H : Hp) (W : WX) : Exc → Prop := fun x => ∀ F' H' d, Grow g.st F H F' H' → Ok g (T + c) F' env σ H' → RepX g.K F' x d → W (.ref x.C) d σ H'
def tD (g : G) (W : WX) (c : Nat) (f : ED) : TE := fun σ H Q => ∃ T F env, T + c ≤ T + c ∧ Ok g T F env σ H ∧ f env (okE g T c F env σ H Q) (exE g T c F env σ H W)
def tDT (g : G) (W : WX) (c : Nat) (f : TD) : TT := fun σ H Q => ∃ T F env, T + c ≤ T + c ∧ Ok g T F env σ H ∧ f env (okT g T c F env σ H Q) (exE g T c F env σ H W)
def tDA (g : G) (W : WX) (c : Nat) (f : AD) : TA := fun σ H Q => ∃ T F env, T + c ≤ T + c ∧ Ok g T F env σ H ∧ f env (okA g T c F env σ H Q) (exE g T c F env σ H W)
/-- a context of ours -/
structure Cy (X : Cx) (g : G) (W : WX) : Prop where
  k : X.K = g.K
  tk : Takes X W
  un : X.A.units + 66 < cLine
  calm : X.calm = true
  po : PassesOwn (model X.prog X.w) X.A X.env X.xe
structure DE (X : Cx) (g : G) (W : WX) (c : Nat) (e : Expr) (f : ED) : Prop where
  pe : PE X e (tD g W c f)
  mono : MonoE f
structure DT (X : Cx) (g : G) (W : WX) (c : Nat) (e : Expr) (f : TD) : Prop where
  pt : PT X e (tDT g W c f)
  mono : MonoE f
structure DA (X : Cx) (g : G) (W : WX) (c : Nat) (es : List Expr) (f : AD) : Prop where
  pa : PA X es (tDA g W c f)
  mono : MonoE f
theorem PEimp {X : Cx} {e : Expr} {t t' : TE} (h : PE X e t) (i : ∀ σ H Q, t' σ H Q → t σ H Q) : PE X e t' := ⟨fun pins s σ H Q I q => h.run pins s σ H Q I (i σ H Q q)⟩
theorem PTimp {X : Cx} {e : Expr} {t t' : TT} (h : PT X e t) (i : ∀ σ H Q, t' σ H Q → t σ H Q) : PT X e t' := ⟨fun pins s σ H Q I q => h.run pins s σ H Q I (i σ H Q q)⟩
theorem PAimp {X : Cx} {e : List Expr} {t t' : TA} (h : PA X e t) (i : ∀ σ H Q, t' σ H Q → t σ H Q) : PA X e t' := ⟨fun pos pins s σ H Q I q => h.run pos pins s σ H Q I (i σ H Q q)⟩
section
variable {X : Cx} {g : G} {W : WX} {T T' ca cb cc : Nat} {F H F1 H1 : Hp} {env : En} {σ : St} {fa fb fc : ED} {ta tb : TD}
theorem exE.le (h : ∀ T' : Nat, True) (l : ca ≤ cb) : ∀ x, exE g T cb F env σ H W x → exE g T ca F env σ H W x := fun x e F' H' d w o r => e F' H' d w (o.up (by omega)) r
theorem exE.shift (w : Grow g.st F H F1 H1) (l : T' + cb ≤ T + cc) : ∀ x, exE g T cc F env σ H W x → exE g T' cb F1 env σ H1 W x := fun x e F' H' d w' o r => e F' H' d (w.trans w') (o.up l) r
theorem run_e {k : VK} {P : RV → Prop} {E0 : Exc → Prop} (ok : Ok g T F env σ H) (hT : T + ca ≤ T + ca) (ma : MonoE fa) (h : fa env P E0)
    (hP : ∀ r, P r → okE g T ca F env σ H k r) (hE : ∀ x, E0 x → exE g T ca F env σ H W x) : tD g W ca fa σ H k := ⟨T, F, env, hT, ok, ma env _ _ _ _ hP hE h⟩
theorem run_t {k : Bool → Hp → Prop} {P : Bool → Prop} {E0 : Exc → Prop} (ok : Ok g T F env σ H) (hT : T + ca ≤ T + ca) (ma : MonoE ta) (h : ta env P E0)
    (hP : ∀ r, P r → okT g T ca F env σ H k r) (hE : ∀ x, E0 x → exE g T ca F env σ H W x) : tDT g W ca ta σ H k := ⟨T, F, env, hT, ok, ma env _ _ _ _ hP hE h⟩
theorem run_a {fa : AD} {k : List V → Hp → Prop} {P : List RV → Prop} {E0 : Exc → Prop} (ok : Ok g T F env σ H) (hT : T + ca ≤ T + ca) (ma : MonoE fa) (h : fa env P E0)
    (hP : ∀ r, P r → okA g T ca F env σ H k r) (hE : ∀ x, E0 x → exE g T ca F env σ H W x) : tDA g W ca fa σ H k := ⟨T, F, env, hT, ok, ma env _ _ _ _ hP hE h⟩

/-! ### freezing -/
def frz (f : ED) : ED := fun env Q E => f env (fun r => match r with | .own xs => Q (.val (.lst xs)) | r => Q r) E
theorem DE.frz {e : Expr} (h : DE X g W ca e fa) : DE X g W ca e (frz fa) := by
  refine ⟨PEimp h.pe fun σ H Q ⟨T, F, env, hT, ok, q⟩ => ?_, fun env Q Q' E E' hq he => h.mono env _ _ _ _ (fun r q => ?_) he⟩
  · refine ⟨T, F, env, hT, ok, h.mono env _ _ _ _ (fun r q => ?_) (fun x e => e) q⟩
    cases r with
    | own xs =>
      intro F' H' v w o rr
      obtain ⟨F2, w2, o2, r2, _⟩ := rr.freeze ok.grow w o
      exact q F2 H' v w2 o2 r2
    | val d => exact q
    | bor xs => exact q
    | sto => exact q
  · cases r with
    | own xs => exact hq _ q
    | val d => exact hq _ q
    | bor xs => exact hq _ q
    | sto => exact hq _ q

/-! ### names, constants -/
def eVar (i : Nat) : ED := fun env Q _ => match env[i]? with
  | some (some (.val d)) => Q (.val d)
  | some (some (.own xs)) => Q (.bor xs)
  | some (some .sto) => Q .sto
  | _ => False
theorem de_var (i : Nat) {x : Str} {pos : Pos} (hN : X.N[i]? = some x := by rfl) (hv : Vis X.env.scope x := by first | exact Or.inl rfl | exact Or.inr (Or.inl rfl) | exact Or.inr (Or.inr rfl)) (hd : (x == ("__debug__" : Str)) = false := by decide)
    (hcd : (x == ("__classdict__" : Str)) = false := by decide) : DE X g W 0 (.Name x pos) (eVar i) := by
  refine ⟨PEimp (pe_var hN hv hd hcd) fun σ H Q ⟨T, F, env, hT, ok, q⟩ => ?_, fun env Q Q' E E' hq he q => ?_⟩
  · unfold eVar at q
    split at q
    · rename_i d e
      obtain ⟨v, h1, h2⟩ := ok.val i d e
      exact ⟨v, h1, q F H v ok.refl ok h2⟩
    · rename_i xs e
      obtain ⟨a, h1, h2⟩ := ok.own i xs e
      exact ⟨_, h1, q F H _ ok.refl ok ⟨i, e, h1⟩⟩
    · rename_i e
      exact ⟨_, ok.stor i e, q F H _ ok.refl ok rfl⟩
    · exact q.elim
  · unfold eVar at q ⊢
    split
    · rename_i d e; rw [e] at q; exact hq _ q
    · rename_i d e; rw [e] at q; exact hq _ q
    · rename_i e; rw [e] at q; exact hq _ q
    · rename_i h1 h2 h3
      revert q
      split
      · rename_i d e; exact absurd e (h1 d)
      · rename_i d e; exact absurd e (h2 d)
      · rename_i e; exact absurd e h3
      · exact id
def eC (d : D) : ED := fun _ Q _ => Q (.val d)
theorem mono_C {d : D} : MonoE (eC d) := fun env Q Q' E E' hq he q => hq _ q
theorem de_c {e : Expr} {v : V} {d : D} (h : PE X e (tC v)) (r : ∀ F, Rep g.K F d v) : DE X g W 0 e (eC d) :=
  ⟨PEimp h fun σ H Q ⟨T, F, env, hT, ok, q⟩ => q F H v ok.refl ok (r F), mono_C⟩
theorem de_int {i j pos} : DE X g W 0 (.Constant (.int i) j pos) (eC (.int i)) := de_c pe_int fun F => by simp only [Rep]
theorem de_bl {i j pos} : DE X g W 0 (.Constant (.bool i) j pos) (eC (.bl i)) := de_c pe_bl fun F => by simp only [Rep]
theorem de_non {j pos} : DE X g W 0 (.Constant .none j pos) (eC .non) := de_c pe_non fun F => by simp only [Rep]
theorem de_str {i j pos} : DE X g W 0 (.Constant (.str i) j pos) (eC (.str i)) := de_c pe_str fun F => by simp only [Rep]
/-- a constant of the module -/
theorem de_gint {x : Str} {i : Int} {t : Tok} {pos : Pos} (hg : Gl X x) (hm : X.mg x = some (.int i t)) (hd : (x == ("__debug__" : Str)) = false := by decide) : DE X g W 0 (.Name x pos) (eC (.int i)) :=
  de_c (pe_glob (v := .int i) hg hm ⟨t, rfl⟩ hd) fun F => by simp only [Rep]
theorem de_gstr {x : Str} {i : Str} {t : Tok} {pos : Pos} (hg : Gl X x) (hm : X.mg x = some (.str i t)) (hd : (x == ("__debug__" : Str)) = false := by decide) : DE X g W 0 (.Name x pos) (eC (.str i)) :=
  de_c (pe_glob (v := .str i) hg hm ⟨t, rfl⟩ hd) fun F => by simp only [Rep]
theorem de_gcls {x : Str} {C : Addr} {pos : Pos} (hg : Gl X x) (hm : X.mg x = some (.ref C)) (hd : (x == ("__debug__" : Str)) = false := by decide) : DE X g W 0 (.Name x pos) (eC (.cls C)) :=
  de_c (pe_glob (v := .ref C) hg hm rfl hd) fun F => by simp only [Rep]
theorem de_ty {x : Str} {n : String} {pos : Pos} (hg : Gl X x) (hm : X.mg x = none) (hv : bootBuiltins x = some (.type n)) (hn : x ≠ "__name__" := by decide) (hd : (x == ("__debug__" : Str)) = false := by decide) : DE X g W 0 (.Name x pos) (eC (.ty n)) :=
  de_c (pe_bltn (v := .ty n) hg hm hv rfl hn hd) fun F => by simp only [Rep]

/-! ### operators by values -/
abbrev Q2 := RV → RV → (RV → Prop) → Prop
def OpD (g : G) (r : R2) (q : Q2) : Prop := ∀ {T : Nat} {F : Hp} {env : En} {σ : St} {H Hs : Hp} {x y : RV} {v w : V} {Q : RV → Prop} {Qv : VK},
  Ok g T F env σ H → RepR g Hs F H env σ x v → RepR g Hs F H env σ y w → q x y Q → (∀ z F' H' u, Q z → Grow g.st F H F' H' → Ok g T F' env σ H' → RepR g H F' H' env σ z u → Qv u H') → r v w H Qv
def MonoQ2 (q : Q2) : Prop := ∀ x y Q Q', (∀ r, Q r → Q' r) → q x y Q → q x y Q'
def eOp (q : Q2) (fa fb : ED) : ED := fun env Q E => frz fa env (fun x => frz fb env (fun y => q x y Q) E) E
theorem mono_op {q : Q2} (mq : MonoQ2 q) (ha : MonoE (frz fa)) (hb : MonoE (frz fb)) : MonoE (eOp q fa fb) := fun env Q Q' E E' hq he h =>
  ha env _ _ _ _ (fun x hx => hb env _ _ _ _ (fun y hy => mq x y Q Q' hq hy) he hx) he h
theorem sem_op {r : R2} {q : Q2} {a b : Expr} (hq : OpD g r q) (ha : DE X g W ca a fa) (hb : DE X g W cb b fb) {σ : St} {H : Hp} {Q : VK} (h : tD g W (ca + cb) (eOp q fa fb) σ H Q) : tOp r (tD g W ca (frz fa)) (tD g W cb (frz fb)) σ H Q := by
  obtain ⟨T, F, env, hT, ok, h⟩ := h
  refine run_e ok (by omega) ha.frz.mono h (fun x hx F1 H1 v w o rx => ?_) (exE.shift ok.refl (by omega))
  refine run_e o (by omega) hb.frz.mono hx (fun y hy F2 H2 v2 w2 o2 ry => ?_) (exE.shift w (by omega))
  exact hq o2 (rx.grow w2) (ry.since w) hy fun z F' H' u qz w3 o3 rz => qz F' H' u (w.trans (w2.trans w3)) (by rw [← Nat.add_assoc]; exact o3) (rz.since (w.trans w2))
theorem de_op {op : Operator} {r : R2} {q : Q2} {a b : Expr} {pos : Pos} (ho : OpR X (binaryOp op) r) (hq : OpD g r q) (mq : MonoQ2 q) (ha : DE X g W ca a fa) (hb : DE X g W cb b fb) :
    DE X g W (ca + cb) (.BinOp a op b pos) (eOp q fa fb) := ⟨PEimp (pe_op ho ha.frz.pe hb.frz.pe) fun σ H Q h => sem_op hq ha hb h, mono_op mq ha.frz.mono hb.frz.mono⟩
theorem de_cmp {op : CmpOp} {r : R2} {q : Q2} {a b : Expr} {pos : Pos} (ho : OpR X (compareOp op) r) (hq : OpD g r q) (mq : MonoQ2 q) (ha : DE X g W ca a fa) (hb : DE X g W cb b fb) (hm : behindInMarks op b = false := by rfl) :
    DE X g W (ca + cb) (.Compare a [op] [b] pos) (eOp q fa fb) := ⟨PEimp (pe_cmpR ho ha.frz.pe hb.frz.pe hm) fun σ H Q h => sem_op hq ha hb h, mono_op mq ha.frz.mono hb.frz.mono⟩
/-- subscripts -/
theorem de_ix {r : R2} {q : Q2} {a b : Expr} {pos : Pos} (ho : IxR X r) (hq : OpD g r q) (mq : MonoQ2 q) (ha : DE X g W ca a fa) (hb : DE X g W cb b fb) (hs : PlainIx b := by exact fun _ _ => rfl) :
    DE X g W (ca + cb) (.Subscript a b pos) (eOp q fa fb) := ⟨PEimp (pe_ix ho ha.frz.pe hb.frz.pe hs) fun σ H Q h => sem_op hq ha hb h, mono_op mq ha.frz.mono hb.frz.mono⟩
theorem opR_or {f : Value → Value → Sem Value} {r r' : R2} (h : OpR X f r) (h' : OpR X f r') : OpR X f (fun x y H Q => r x y H Q ∨ r' x y H Q) := fun pins s σ H x y v u Q I rx ry q => by
  rcases q with q | q
  · exact h pins s σ H x y v u Q I rx ry q
  · exact h' pins s σ H x y v u Q I rx ry q
/-! ### tests -/
def tBool (f : ED) : TD := fun env Q E => f env (fun r => match r with | .val (.bl b) => Q b | _ => False) E
theorem mono_bool (h : MonoE fa) : MonoE (tBool fa) := fun env Q Q' E E' hq he q => h env _ _ _ _ (fun r q => by
  split at q
  · exact hq _ q
  · exact q.elim) he q
theorem dt_cmp {op : CmpOp} {r : R2} {q : Q2} {a b : Expr} {pos : Pos} (ho : OpR X (compareOp op) r) (hq : OpD g r q) (mq : MonoQ2 q) (ha : DE X g W ca a fa) (hb : DE X g W cb b fb) (hm : behindInMarks op b = false := by rfl) :
    DT X g W (ca + cb) (.Compare a [op] [b] pos) (tBool (eOp q fa fb)) := by
  refine ⟨PTimp (pt_cmpR ho ha.frz.pe hb.frz.pe hm) fun σ H Q h => ?_, mono_bool (mono_op mq ha.frz.mono hb.frz.mono)⟩
  refine sem_op hq ha hb ?_
  obtain ⟨T, F, env, hT, ok, h⟩ := h
  refine ⟨T, F, env, hT, ok, mono_op mq ha.frz.mono hb.frz.mono env _ _ _ _ (fun r q F' H' v w o rr => ?_) (fun x e => e) h⟩
  split at q
  · rename_i b
    simp only [RepR, Rep] at rr
    exact ⟨b, rr, q F' H' w o⟩
  · exact q.elim
def tAndD (ta tb : TD) : TD := fun env Q E => ta env (fun b => if b = true then tb env Q E else Q false) E
def tOrD (ta tb : TD) : TD := fun env Q E => ta env (fun b => if b = true then Q true else tb env Q E) E
def tNotD (ta : TD) : TD := fun env Q E => ta env (fun b => Q (!b)) E
theorem mono_and (ha : MonoE ta) (hb : MonoE tb) : MonoE (tAndD ta tb) := fun env Q Q' E E' hq he q => ha env _ _ _ _ (fun b q => by
  cases b with
  | true => exact hb env _ _ _ _ hq he q
  | false => exact hq _ q) he q
theorem mono_or (ha : MonoE ta) (hb : MonoE tb) : MonoE (tOrD ta tb) := fun env Q Q' E E' hq he q => ha env _ _ _ _ (fun b q => by
  cases b with
  | true => exact hq _ q
  | false => exact hb env _ _ _ _ hq he q) he q
theorem mono_not (ha : MonoE ta) : MonoE (tNotD ta) := fun env Q Q' E E' hq he q => ha env _ _ _ _ (fun b q => hq _ q) he q
/-- a chain of and, or -/
structure DW (X : Cx) (g : G) (W : WX) (c : Nat) (e : Expr) (f : TD) : Prop where
  pw : PW X e (tDT g W c f)
  mono : MonoE f
theorem PWimp {X : Cx} {e : Expr} {t t' : TT} (h : PW X e t) (i : ∀ σ H Q, t' σ H Q → t σ H Q) : PW X e t' := ⟨fun wh pins s σ H Q I q => h.run wh pins s σ H Q I (i σ H Q q)⟩
theorem DW.dt {e : Expr} (h : DW X g W ca e ta) : DT X g W ca e ta := ⟨h.pw.pt, h.mono⟩
theorem dw_and1 {a : Expr} {pos : Pos} (h : DT X g W ca a ta) : DW X g W ca (.BoolOp .And [a] pos) ta := ⟨pw_and1 h.pt, h.mono⟩
theorem dw_or1 {a : Expr} {pos : Pos} (h : DT X g W ca a ta) : DW X g W ca (.BoolOp .Or [a] pos) ta := ⟨pw_or1 h.pt, h.mono⟩
theorem dw_and {a b : Expr} {rest : List Expr} {pos : Pos} (ha : DT X g W ca a ta) (hb : DW X g W cb (.BoolOp .And (b :: rest) pos) tb) : DW X g W (ca + cb) (.BoolOp .And (a :: b :: rest) pos) (tAndD ta tb) := by
  refine ⟨PWimp (pw_and ha.pt hb.pw) fun σ H Q ⟨T, F, env, hT, ok, h⟩ => ?_, mono_and ha.mono hb.mono⟩
  refine run_t ok (by omega) ha.mono h (fun x hx F1 H1 w o => ?_) (exE.shift ok.refl (by omega))
  cases x with
  | true => exact run_t o (by omega) hb.mono hx (fun y hy F2 H2 w2 o2 => hy F2 H2 (w.trans w2) (by rw [← Nat.add_assoc]; exact o2)) (exE.shift w (by omega))
  | false => exact hx F1 H1 w (o.up (by omega))
theorem dw_or {a b : Expr} {rest : List Expr} {pos : Pos} (ha : DT X g W ca a ta) (hb : DW X g W cb (.BoolOp .Or (b :: rest) pos) tb) : DW X g W (ca + cb) (.BoolOp .Or (a :: b :: rest) pos) (tOrD ta tb) := by
  refine ⟨PWimp (pw_or ha.pt hb.pw) fun σ H Q ⟨T, F, env, hT, ok, h⟩ => ?_, mono_or ha.mono hb.mono⟩
  refine run_t ok (by omega) ha.mono h (fun x hx F1 H1 w o => ?_) (exE.shift ok.refl (by omega))
  cases x with
  | false => exact run_t o (by omega) hb.mono hx (fun y hy F2 H2 w2 o2 => hy F2 H2 (w.trans w2) (by rw [← Nat.add_assoc]; exact o2)) (exE.shift w (by omega))
  | true => exact hx F1 H1 w (o.up (by omega))
theorem dt_not {a : Expr} {pos : Pos} (ha : DT X g W ca a ta) : DT X g W ca (.UnaryOp .Not a pos) (tNotD ta) := by
  refine ⟨PTimp (pt_not ha.pt) fun σ H Q ⟨T, F, env, hT, ok, h⟩ => ?_, mono_not ha.mono⟩
  exact run_t ok (by omega) ha.mono h (fun x hx F1 H1 w o => hx F1 H1 w o) (exE.shift ok.refl (by omega))
/-- and, or, not as values -/
def eAnd (fa fb : ED) : ED := fun env Q E => fa env (fun r => match r with | .val (.bl b) => if b = true then fb env Q E else Q (.val (.bl false)) | _ => False) E
def eOr (fa fb : ED) : ED := fun env Q E => fa env (fun r => match r with | .val (.bl b) => if b = true then Q (.val (.bl true)) else fb env Q E | _ => False) E
def eNot (fa : ED) : ED := fun env Q E => fa env (fun r => match r with | .val (.bl b) => Q (.val (.bl (!b))) | _ => False) E
theorem mono_eand (ha : MonoE fa) (hb : MonoE fb) : MonoE (eAnd fa fb) := fun env Q Q' E E' hq he q => ha env _ _ _ _ (fun r q => by
  split at q
  · rename_i b
    cases b with
    | true => exact hb env _ _ _ _ hq he q
    | false => exact hq _ q
  · exact q.elim) he q
theorem mono_eor (ha : MonoE fa) (hb : MonoE fb) : MonoE (eOr fa fb) := fun env Q Q' E E' hq he q => ha env _ _ _ _ (fun r q => by
  split at q
  · rename_i b
    cases b with
    | false => exact hb env _ _ _ _ hq he q
    | true => exact hq _ q
  · exact q.elim) he q
theorem mono_enot (ha : MonoE fa) : MonoE (eNot fa) := fun env Q Q' E E' hq he q => ha env _ _ _ _ (fun r q => by
  split at q
  · exact hq _ q
  · exact q.elim) he q
theorem de_one {op} {a : Expr} {pos : Pos} (h : DE X g W ca a fa) : DE X g W ca (.BoolOp op [a] pos) fa := ⟨pe_one h.pe, h.mono⟩
theorem de_and {a b : Expr} {rest : List Expr} {pos : Pos} (ha : DE X g W ca a fa) (hb : DE X g W cb (.BoolOp .And (b :: rest) pos) fb) : DE X g W (ca + cb) (.BoolOp .And (a :: b :: rest) pos) (eAnd fa fb) := by
  refine ⟨PEimp (pe_and ha.pe hb.pe) fun σ H Q ⟨T, F, env, hT, ok, h⟩ => ?_, mono_eand ha.mono hb.mono⟩
  refine run_e ok (by omega) ha.mono h (fun x hx F1 H1 v w o rx => ?_) (exE.shift ok.refl (by omega))
  split at hx
  · rename_i b
    simp only [RepR, Rep] at rx
    refine ⟨b, rx, ?_⟩
    cases b with
    | true => exact run_e o (by omega) hb.mono hx (fun y hy F2 H2 v2 w2 o2 ry => hy F2 H2 v2 (w.trans w2) (by rw [← Nat.add_assoc]; exact o2) (ry.since w)) (exE.shift w (by omega))
    | false => exact hx F1 H1 (.bl false) w (o.up (by omega)) (by simp only [RepR, Rep])
  · exact hx.elim
theorem de_or {a b : Expr} {rest : List Expr} {pos : Pos} (ha : DE X g W ca a fa) (hb : DE X g W cb (.BoolOp .Or (b :: rest) pos) fb) : DE X g W (ca + cb) (.BoolOp .Or (a :: b :: rest) pos) (eOr fa fb) := by
  refine ⟨PEimp (pe_or ha.pe hb.pe) fun σ H Q ⟨T, F, env, hT, ok, h⟩ => ?_, mono_eor ha.mono hb.mono⟩
  refine run_e ok (by omega) ha.mono h (fun x hx F1 H1 v w o rx => ?_) (exE.shift ok.refl (by omega))
  split at hx
  · rename_i b
    simp only [RepR, Rep] at rx
    refine ⟨b, rx, ?_⟩
    cases b with
    | false => exact run_e o (by omega) hb.mono hx (fun y hy F2 H2 v2 w2 o2 ry => hy F2 H2 v2 (w.trans w2) (by rw [← Nat.add_assoc]; exact o2) (ry.since w)) (exE.shift w (by omega))
    | true => exact hx F1 H1 (.bl true) w (o.up (by omega)) (by simp only [RepR, Rep])
  · exact hx.elim
theorem de_not {a : Expr} {pos : Pos} (ha : DE X g W ca a fa) : DE X g W ca (.UnaryOp .Not a pos) (eNot fa) := by
  refine ⟨PEimp (pe_not ha.pe) fun σ H Q ⟨T, F, env, hT, ok, h⟩ => ?_, mono_enot ha.mono⟩
  refine run_e ok (by omega) ha.mono h (fun x hx F1 H1 v w o rx => ?_) (exE.shift ok.refl (by omega))
  split at hx
  · rename_i b
    simp only [RepR, Rep] at rx
    exact ⟨b, rx, hx F1 H1 (.bl (!b)) w o (by simp only [RepR, Rep])⟩
  · exact hx.elim
/-! ### arguments -/
def aNil : AD := fun _ Q _ => Q []
def aCons (fa : ED) (fr : AD) : AD := fun env Q E => frz fa env (fun x => fr env (fun xs => Q (x :: xs)) E) E
theorem RepRs.grow {Hs F H F' H' : Hp} (w : Grow g.st F H F' H') : ∀ {rs : List RV} {vs : List V}, RepRs g Hs F H env σ rs vs → RepRs g Hs F' H' env σ rs vs
  | [], _, h => h
  | r :: rs, _, h => by
    obtain ⟨v, u, rfl, h1, h2⟩ := h
    exact ⟨v, u, rfl, h1.grow w, RepRs.grow w h2⟩
theorem RepRs.since {Hs F H F' Hr Fr : Hp} (w : Grow g.st Fr Hr F' Hs) : ∀ {rs : List RV} {vs : List V}, RepRs g Hs F H env σ rs vs → RepRs g Hr F H env σ rs vs
  | [], _, h => h
  | r :: rs, _, h => by
    obtain ⟨v, u, rfl, h1, h2⟩ := h
    exact ⟨v, u, rfl, h1.since w, RepRs.since w h2⟩
theorem da_nil : DA X g W 0 [] aNil := ⟨PAimp pa_nil fun σ H Q ⟨T, F, env, hT, ok, h⟩ => h F H [] ok.refl ok rfl, fun env Q Q' E E' hq he q => hq _ q⟩
theorem da_cons {e : Expr} {es : List Expr} {fr : AD} (ha : DE X g W ca e fa) (hr : DA X g W cb es fr) (hs : starEach (e :: es) X.env = (false, eval e X.env) :: starEach es X.env := by rfl) : DA X g W (ca + cb) (e :: es) (aCons fa fr) := by
  refine ⟨PAimp (pa_cons ha.frz.pe hr.pa hs) fun σ H Q ⟨T, F, env, hT, ok, h⟩ => ?_, fun env Q Q' E E' hq he h => ha.frz.mono env _ _ _ _ (fun x hx => hr.mono env _ _ _ _ (fun y hy => hq _ hy) he hx) he h⟩
  refine run_e ok (by omega) ha.frz.mono h (fun x hx F1 H1 v w o rx => ?_) (exE.shift ok.refl (by omega))
  refine run_a o (by omega) hr.mono hx (fun y hy F2 H2 v2 w2 o2 ry => ?_) (exE.shift w (by omega))
  exact hy F2 H2 (v :: v2) (w.trans w2) (by rw [← Nat.add_assoc]; exact o2) ⟨v, v2, rfl, rx.grow w2, ry.since w⟩
abbrev QC := List RV → (RV → Prop) → Prop
def CallD (g : G) (r : List V → Hp → VK → Prop) (q : QC) : Prop := ∀ {T : Nat} {F : Hp} {env : En} {σ : St} {H Hs : Hp} {xs : List RV} {vs : List V} {Q : RV → Prop} {Qv : VK},
  Ok g T F env σ H → RepRs g Hs F H env σ xs vs → q xs Q → (∀ z F' H' u, Q z → Grow g.st F H F' H' → Ok g T F' env σ H' → RepR g H F' H' env σ z u → Qv u H') → r vs H Qv
def MonoC (q : QC) : Prop := ∀ xs Q Q', (∀ r, Q r → Q' r) → q xs Q → q xs Q'
def eCall (q : QC) (fa : AD) : ED := fun env Q E => fa env (fun xs => q xs Q) E
theorem mono_call {q : QC} {fa : AD} (mq : MonoC q) (ha : MonoE fa) : MonoE (eCall q fa) := fun env Q Q' E E' hq he h => ha env _ _ _ _ (fun x hx => mq x Q Q' hq hx) he h
theorem sem_call {r : List V → Hp → VK → Prop} {q : QC} {fa : AD} {es : List Expr} (hq : CallD g r q) (ha : DA X g W ca es fa) {σ : St} {H : Hp} {Q : VK} (h : tD g W ca (eCall q fa) σ H Q) : tCB r (tDA g W ca fa) σ H Q := by
  obtain ⟨T, F, env, hT, ok, h⟩ := h
  refine run_a ok (by omega) ha.mono h (fun x hx F1 H1 v w o rx => ?_) (exE.shift ok.refl (by omega))
  exact hq o rx hx fun z F' H' u qz w3 o3 rz => qz F' H' u (w.trans w3) o3 (rz.since w)
theorem de_callB {id : String} {r : List V → Hp → VK → Prop} {q : QC} {fa : AD} {x : Str} {e : Expr} {es : List Expr} {p pos : Pos} (hc : CallR X (.builtin id) r) (hq : CallD g r q) (mq : MonoC q) (hg : Gl X x) (hm : X.mg x = none) (hv : bootBuiltins x = some (.builtin id)) (ha : DA X g W ca (e :: es) fa)
    (hn : x ≠ "__name__" := by decide) (hdb : (x == ("__debug__" : Str)) = false := by decide) (he : starEach (e :: es) X.env = (false, eval e X.env) :: starEach es X.env := by rfl) (hpl : (backTo pos (starEach es X.env)).any (·.1) = false := by rfl) :
    DE X g W ca (.Call (.Name x p) (e :: es) [] pos) (eCall q fa) := ⟨PEimp (pe_callB hc hg hm hv ha.pa hn hdb he hpl) fun σ H Q h => sem_call hq ha h, mono_call mq ha.mono⟩
theorem de_callTy {id : String} {r : List V → Hp → VK → Prop} {q : QC} {fa : AD} {x : Str} {e : Expr} {es : List Expr} {p pos : Pos} (hc : CallR X (.type id) r) (hq : CallD g r q) (mq : MonoC q) (hg : Gl X x) (hm : X.mg x = none) (hv : bootBuiltins x = some (.type id)) (ha : DA X g W ca (e :: es) fa)
    (hn : x ≠ "__name__" := by decide) (hdb : (x == ("__debug__" : Str)) = false := by decide) (he : starEach (e :: es) X.env = (false, eval e X.env) :: starEach es X.env := by rfl) (hpl : (backTo pos (starEach es X.env)).any (·.1) = false := by rfl) :
    DE X g W ca (.Call (.Name x p) (e :: es) [] pos) (eCall q fa) := ⟨PEimp (pe_callTy hc hg hm hv ha.pa hn hdb he hpl) fun σ H Q h => sem_call hq ha h, mono_call mq ha.mono⟩
end
end DL

namespace DL
open PySem PySem.Spec L2
abbrev LIM : Nat := 100000
theorem lim_line {n : Nat} (h : n ≤ LIM) : n ≤ sizeLine := Evl.sz_of h
theorem lim_lt {n : Nat} (h : n < LIM) : n < sizeLine := Evl.sz_lt h
/-- a result as data (a list of our own too) -/
def asD : RV → Option D
  | .val d => some d
  | .bor xs => some (.lst xs)
  | _ => none
def asSeq : RV → Option (List D)
  | .val (.tup xs) => some xs
  | .val (.lst xs) => some xs
  | .bor xs => some xs
  | _ => none
def asL : RV → Option (List D)
  | .val (.lst xs) => some xs
  | .bor xs => some xs
  | _ => none
section
variable {X : Cx} {g : G} {W : WX} {T : Nat} {F H Hs : Hp} {env : En} {σ : St} {x y r : RV} {v w : V} {xs ys : List D}
theorem asD_rep {d : D} (ok : Ok g T F env σ H) (h : asD x = some d) (r : RepR g Hs F H env σ x v) : Rep g.K H d v := by
  cases x with
  | val e =>
    simp only [asD, Option.some.injEq] at h
    subst h
    exact Rep.mono ok.fh r
  | bor ys =>
    simp only [asD, Option.some.injEq] at h
    subst h
    obtain ⟨i, e1, e2⟩ := r
    obtain ⟨a, e3, o⟩ := ok.own i ys e1
    rw [e2] at e3
    cases e3
    obtain ⟨vs, e4, e5⟩ := o.at'
    simp only [Rep]
    exact ⟨a, vs, rfl, e4, e5.mono ok.fh⟩
  | own ys => simp [asD] at h
  | sto => simp [asD] at h
theorem asL_rep (ok : Ok g T F env σ H) (h : asL x = some xs) (r : RepR g Hs F H env σ x v) : ∃ a vs, v = .ref a ∧ H a = some (.lst vs) ∧ RepL g.K F xs vs := by
  cases x with
  | val e =>
    cases e with
    | lst ys =>
      simp only [asL, Option.some.injEq] at h
      subst h
      simp only [RepR, Rep] at r
      obtain ⟨a, vs, h1, h2, h3⟩ := r
      exact ⟨a, vs, h1, ok.fh _ _ h2, h3⟩
    | _ => simp [asL] at h
  | bor ys =>
    simp only [asL, Option.some.injEq] at h
    subst h
    obtain ⟨i, e1, e2⟩ := r
    obtain ⟨a, e3, o⟩ := ok.own i ys e1
    rw [e2] at e3
    cases e3
    obtain ⟨vs, e4, e5⟩ := o.at'
    exact ⟨a, vs, rfl, e4, e5⟩
  | own ys => simp [asL] at h
  | sto => simp [asL] at h
theorem asSeq_rep (ok : Ok g T F env σ H) (h : asSeq x = some xs) (r : RepR g Hs F H env σ x v) : ∃ a vs, v = .ref a ∧ (SqL g.K H a vs ∨ SqT g.K H a vs) ∧ RepL g.K F xs vs := by
  cases x with
  | val e =>
    cases e with
    | lst ys =>
      obtain ⟨a, vs, h1, h2, h3⟩ := asL_rep (x := .val (.lst ys)) (xs := xs) ok (by simpa [asSeq, asL] using h) r
      exact ⟨a, vs, h1, .inl (.inl (.inl h2)), h3⟩
    | tup ys =>
      simp only [asSeq, Option.some.injEq] at h
      subst h
      simp only [RepR, Rep] at r
      obtain ⟨a, vs, h1, h2, h3⟩ := r
      exact ⟨a, vs, h1, .inr (Evl.ex_t ok.fh h2), h3⟩
    | _ => simp [asSeq] at h
  | bor ys =>
    obtain ⟨a, vs, h1, h2, h3⟩ := asL_rep (x := .bor ys) (xs := xs) ok (by simpa [asSeq, asL] using h) r
    exact ⟨a, vs, h1, .inl (.inl (.inl h2)), h3⟩
  | own ys => simp [asSeq] at h
  | sto => simp [asSeq] at h
/-- flat values -/
def flat : D → Option V
  | .non => some .non
  | .bl b => some (.bl b)
  | .int i => some (.int i)
  | .str s => some (.str s)
  | _ => none
theorem flat_rep {K : PySem.W.Frag} {d : D} (h : flat d = some w) (r : Rep K F d v) : v = w := by
  cases d <;> simp only [flat, Option.some.injEq, reduceCtorEq] at h <;> (simp only [Rep] at r; rw [r, h])
theorem flat_flatV {d : D} (h : flat d = some w) : flatV w = true := by
  cases d <;> simp only [flat, Option.some.injEq, reduceCtorEq] at h <;> (subst h; rfl)
def flats : List D → Option (List V)
  | [] => some []
  | d :: ds => match flat d, flats ds with
    | some v, some vs => some (v :: vs)
    | _, _ => none
theorem flats_rep {K : PySem.W.Frag} : ∀ {ds : List D} {vs ws : List V}, flats ds = some ws → RepL K F ds vs → vs = ws ∧ ws.all flatV = true
  | [], _, _, h, r => by
    simp only [flats, Option.some.injEq] at h
    simp only [RepL] at r
    subst h; subst r
    exact ⟨rfl, rfl⟩
  | d :: ds, _, _, h, r => by
    simp only [RepL] at r
    obtain ⟨v, u, rfl, h1, h2⟩ := r
    unfold flats at h
    split at h
    · rename_i a b e1 e2
      cases h
      obtain ⟨e3, e4⟩ := flats_rep e2 h2
      rw [flat_rep e1 h1, e3]
      exact ⟨rfl, by rw [List.all_cons, flat_flatV e1, e4]; rfl⟩
    · cases h
theorem flats_strs : ∀ (ss : List Str), flats (ss.map D.str) = some (ss.map V.str)
  | [] => rfl
  | s :: ss => by simp only [List.map_cons, flats, flat, flats_strs ss]
/-! ### + -/
def rInt (f : Int → Int → V) : R2 := fun x y H Q => ∃ i j, x = .int i ∧ y = .int j ∧ Q (f i j) H
def rAddA (K : PySem.W.Frag) : R2 := fun x y H Q => ((rI0 fun i j => .int (i + j)) x y H Q ∨ (∃ i j, x = .str i ∧ y = .str j ∧ i.length + j.length ≤ sizeLine ∧ Q (.str (i ++ j)) H)) ∨ (rCatA K x y H Q ∨ rCat x y H Q)
theorem op_addA : OpR X (binaryOp .Add) (rAddA X.K) := opR_or (opR_or op_add op_add_str) (opR_or op_catA op_cat)
def addQ : Q2 := fun x y Q => match x, y with
  | .val (.int i), .val (.int j) => Q (.val (.int (i + j)))
  | .val (.str s), .val (.str t) => s.length + t.length ≤ LIM ∧ Q (.val (.str (s ++ t)))
  | .val (.tup xs), .val (.tup ys) => xs.length + ys.length ≤ LIM ∧ Q (.val (.tup (xs ++ ys)))
  | x, y => ∃ xs ys, asL x = some xs ∧ asL y = some ys ∧ xs.length + ys.length ≤ LIM ∧ Q (.own (xs ++ ys))
theorem mono_addQ : MonoQ2 addQ := fun x y Q Q' hq q => by
  unfold addQ at q ⊢
  split
  · exact hq _ q
  · exact ⟨q.1, hq _ q.2⟩
  · exact ⟨q.1, hq _ q.2⟩
  · split at q
    · simp_all
    · simp_all
    · simp_all
    · obtain ⟨xs, ys, h1, h2, h3, q⟩ := q
      exact ⟨xs, ys, h1, h2, h3, hq _ q⟩
theorem d_add : OpD g (rAddA g.K) addQ := by
  intro T F env σ H Hs x y v w Q Qv ok rx ry q k
  unfold addQ at q
  split at q
  · simp only [RepR, Rep] at rx ry
    exact .inl (.inl ⟨_, _, rx, ry, k _ F H _ q ok.refl ok (by simp only [RepR, Rep])⟩)
  · simp only [RepR, Rep] at rx ry
    exact .inl (.inr ⟨_, _, rx, ry, lim_line q.1, k _ F H _ q.2 ok.refl ok (by simp only [RepR, Rep])⟩)
  · rename_i xs ys
    have rx' := rx
    have ry' := ry
    simp only [RepR, Rep] at rx ry
    obtain ⟨a, vs, rfl, ha, hx⟩ := rx
    obtain ⟨b, ws, rfl, hb, hy⟩ := ry
    have l1 := hx.length
    have l2 := hy.length
    refine .inr (.inl ⟨a, b, vs, ws, rfl, rfl, Evl.ex_t ok.fh ha, Evl.ex_t ok.fh hb, lim_line (by rw [← l1, ← l2]; exact q.1), fun e => ?_, fun _ e => ?_, fun _ _ p hp => ?_⟩)
    · have e2 : xs = [] := by
        rw [e] at l1
        exact List.length_eq_zero_iff.mp l1
      subst e2
      exact k _ F H _ q.2 ok.refl ok ry'
    · have e2 : ys = [] := by
        rw [e] at l2
        exact List.length_eq_zero_iff.mp l2
      subst e2
      rw [List.append_nil] at q
      exact k _ F H _ q.2 ok.refl ok rx'
    · refine k _ _ _ _ q.2 (Grow.newF ok.fh ok.sto.free ok.sto.some hp) (ok.newF hp) ?_
      simp only [RepR, Rep]
      exact ⟨p, vs ++ ws, rfl, .inl (.inl upd_same), (hx.append hy).mono (Evl.Ex.new (Evl.fresh_back ok.fh hp))⟩
  · obtain ⟨xs, ys, h1, h2, h3, q⟩ := q
    obtain ⟨a, vs, rfl, ha, hx⟩ := asL_rep ok h1 rx
    obtain ⟨b, ws, rfl, hb, hy⟩ := asL_rep ok h2 ry
    refine .inr (.inr ⟨a, b, vs, ws, rfl, rfl, ha, hb, lim_line (by rw [← hx.length, ← hy.length]; exact h3), fun p hp => ?_⟩)
    exact k _ F _ _ q (Grow.new ok.fh ok.sto.free hp) (ok.new hp) (RepR.made ok hp (hx.append hy))
/-! ### ints -/
def intQ (C : Int → Int → Prop) (f : Int → Int → D) : Q2 := fun x y Q => match x, y with
  | .val (.int i), .val (.int j) => C i j ∧ Q (.val (f i j))
  | _, _ => False
theorem mono_intQ {C : Int → Int → Prop} {f : Int → Int → D} : MonoQ2 (intQ C f) := fun x y Q Q' hq q => by
  unfold intQ at q ⊢
  split
  · exact ⟨q.1, hq _ q.2⟩
  · split at q
    · simp_all
    · exact q
theorem d_int {C : Int → Int → Prop} {f : Int → Int → D} {f' : Int → Int → V} (h : ∀ i j F, Rep g.K F (f i j) (f' i j)) : OpD g (rI C f') (intQ C f) := by
  intro T F env σ H Hs x y v w Q Qv ok rx ry q k
  unfold intQ at q
  split at q
  · simp only [RepR, Rep] at rx ry
    exact ⟨_, _, rx, ry, q.1, k _ F H _ q.2 ok.refl ok (h _ _ F)⟩
  · exact q.elim
def int0Q (f : Int → Int → D) : Q2 := fun x y Q => match x, y with
  | .val (.int i), .val (.int j) => Q (.val (f i j))
  | _, _ => False
theorem mono_int0Q {f : Int → Int → D} : MonoQ2 (int0Q f) := fun x y Q Q' hq q => by
  unfold int0Q at q ⊢
  split
  · exact hq _ q
  · split at q
    · simp_all
    · exact q
theorem d_int0 {f : Int → Int → D} {f' : Int → Int → V} (h : ∀ i j F, Rep g.K F (f i j) (f' i j)) : OpD g (rI0 f') (int0Q f) := by
  intro T F env σ H Hs x y v w Q Qv ok rx ry q k
  unfold int0Q at q
  split at q
  · simp only [RepR, Rep] at rx ry
    exact ⟨_, _, rx, ry, k _ F H _ q ok.refl ok (h _ _ F)⟩
  · exact q.elim
abbrev subQ : Q2 := int0Q fun i j => .int (i - j)
abbrev fdivQ : Q2 := intQ CDivN fun i j => .int (i.fdiv j)
abbrev modQ : Q2 := intQ (fun _ j => j ≠ 0) fun i j => .int (i.fmod j)
abbrev powQ : Q2 := intQ CPow fun i j => .int (i ^ j.toNat)
abbrev ltQ : Q2 := int0Q fun i j => .bl (decide (i < j))
abbrev leQ : Q2 := int0Q fun i j => .bl (decide (i ≤ j))
abbrev gtQ : Q2 := int0Q fun i j => .bl (decide (j < i))
abbrev geQ : Q2 := int0Q fun i j => .bl (decide (j ≤ i))
theorem d_sub : OpD g (rI0 fun i j => .int (i - j)) subQ := d_int0 fun _ _ _ => by simp only [Rep]
theorem d_fdiv : OpD g (rI CDivN fun i j => .int (i.fdiv j)) fdivQ := d_int fun _ _ _ => by simp only [Rep]
theorem d_mod : OpD g (rI (fun _ j => j ≠ 0) fun i j => .int (i.fmod j)) modQ := d_int fun _ _ _ => by simp only [Rep]
theorem d_pow : OpD g (rI CPow fun i j => .int (i ^ j.toNat)) powQ := d_int fun _ _ _ => by simp only [Rep]
theorem d_lt : OpD g (rI0 fun i j => .bl (decide (i < j))) ltQ := d_int0 fun _ _ _ => by simp only [Rep]
theorem d_le : OpD g (rI0 fun i j => .bl (decide (i ≤ j))) leQ := d_int0 fun _ _ _ => by simp only [Rep]
theorem d_gt : OpD g (rI0 fun i j => .bl (decide (j < i))) gtQ := d_int0 fun _ _ _ => by simp only [Rep]
theorem d_ge : OpD g (rI0 fun i j => .bl (decide (j ≤ i))) geQ := d_int0 fun _ _ _ => by simp only [Rep]
/-! ### * -/
def repS (s : Str) (n : Nat) : Str := ⟨(List.replicate n s.cps.toList).flatten.toArray⟩
theorem fold_app : ∀ (n : Nat) (a b : Array Nat), (List.replicate n a).foldl (· ++ ·) b = b ++ (List.replicate n a.toList).flatten.toArray
  | 0, a, b => by simp
  | n + 1, a, b => by
    simp only [List.replicate_succ, List.foldl_cons, List.flatten_cons]
    rw [fold_app n a (b ++ a)]
    apply Array.ext'
    simp
theorem repS_length (s : Str) (n : Nat) : (repS s n).length = n * s.length := by
  show (List.replicate n s.cps.toList).flatten.toArray.size = n * s.cps.size
  rw [List.size_toArray, List.length_flatten, List.map_replicate, List.sum_replicate_nat, Array.length_toList]
theorem op_mulS : OpR X (binaryOp .Mult) (fun x y H Q => ∃ (s : Str) (n : Int), x = .str s ∧ y = .int n ∧ 0 ≤ n ∧ n ≤ 100000 ∧ s.length * n.toNat ≤ 100000 ∧ Q (.str (repS s n.toNat)) H) := by
  intro pins s σ H x y v u Q I rx ry h
  obtain ⟨z, n, rfl, rfl, h0, h1, h2, q⟩ := h
  obtain ⟨t, rfl⟩ := rx
  obtain ⟨t', rfl⟩ := ry
  refine PySem.P.mul_str ?_ (fun _ _ => ?_) (fun _ _ => ?_) ?_
  · have a1 : ¬ n < -(2 ^ 63 : Int) := by omega
    have a2 : ¬ n ≥ 2 ^ 63 := by omega
    rw [decide_eq_false a1, decide_eq_false a2]; rfl
  · rename_i hn hz
    intro hgt
    have e : (0 : Int) < n := by omega
    have e2 : (2 ^ 63 - 1 : Int) / n < (z.length : Int) := hgt
    have e3 := Int.lt_mul_of_ediv_lt e e2
    have e4 : ((z.length : Int) * n) ≤ 100000 := by
      have h3 : ((z.length * n.toNat : Nat) : Int) ≤ ((100000 : Nat) : Int) := Int.ofNat_le.mpr h2
      rw [Int.natCast_mul, Int.toNat_of_nonneg h0] at h3
      exact h3
    omega
  · have : z.length * n.toNat ≤ sizeLine := Evl.sz_of h2
    unfold Builtin.Str.tooLong
    exact decide_eq_false (by omega)
  · by_cases c : n < 1
    · rw [if_pos c]
      have e0 : n.toNat = 0 := by omega
      refine ⟨by decide, ⟨.str Str.empty, H, I.tok _, ⟨_, rfl⟩, ?_⟩⟩
      rw [e0] at q
      exact q
    · rw [if_neg c]
      by_cases d : (n == 1 || z.length == 0) = true
      · rw [if_pos d]
        have eq : repS z n.toNat = z := by
          rw [Bool.or_eq_true, beq_iff_eq, beq_iff_eq] at d
          rcases d with d | d
          · subst d
            simp [repS]
          · have : z.cps = #[] := by
              have : z.cps.size = 0 := d
              exact Array.eq_empty_of_size_eq_zero this
            obtain ⟨cp⟩ := z
            simp only at this
            subst this
            simp [repS]
        rw [eq] at q
        exact ⟨.str z, H, I, ⟨t, rfl⟩, q⟩
      · rw [if_neg d]
        have eq : (⟨(List.replicate n.toNat z.cps).foldl (· ++ ·) #[]⟩ : Str) = repS z n.toNat := by
          rw [fold_app]
          simp [repS]
        rw [eq]
        refine ⟨?_, ⟨.str (repS z n.toNat), H, I.tok _, ⟨_, rfl⟩, q⟩⟩
        rw [repS_length]
        refine Evl.sz_of ?_
        rw [Nat.mul_comm]
        exact h2
end
end DL

namespace DL
open PySem PySem.Spec L2
section
variable {X : Cx} {g : G} {W : WX} {T ca cb cc : Nat} {F H Hs : Hp} {env : En} {σ : St} {x y r : RV} {v w : V} {xs ys : List D}
/-! ### *: ints (one small), a text -/
def rMulA : R2 := fun x y H Q => (rI CMul fun i j => .int (i * j)) x y H Q ∨ ∃ (s : Str) (n : Int), x = .str s ∧ y = .int n ∧ 0 ≤ n ∧ n ≤ 100000 ∧ s.length * n.toNat ≤ 100000 ∧ Q (.str (repS s n.toNat)) H
theorem op_mulA : OpR X (binaryOp .Mult) rMulA := opR_or op_mul op_mulS
def mulQ : Q2 := fun x y Q => match x, y with
  | .val (.int i), .val (.int j) => CMul i j ∧ Q (.val (.int (i * j)))
  | .val (.str s), .val (.int n) => (0 ≤ n ∧ n ≤ 100000 ∧ s.length * n.toNat ≤ 100000) ∧ Q (.val (.str (repS s n.toNat)))
  | _, _ => False
theorem mono_mulQ : MonoQ2 mulQ := fun x y Q Q' hq q => by
  unfold mulQ at q ⊢
  split
  · exact ⟨q.1, hq _ q.2⟩
  · exact ⟨q.1, hq _ q.2⟩
  · split at q
    · simp_all
    · simp_all
    · exact q
theorem d_mul : OpD g rMulA mulQ := by
  intro T F env σ H Hs x y v w Q Qv ok rx ry q k
  unfold mulQ at q
  split at q
  · simp only [RepR, Rep] at rx ry
    exact .inl ⟨_, _, rx, ry, q.1, k _ F H _ q.2 ok.refl ok (by simp only [RepR, Rep])⟩
  · simp only [RepR, Rep] at rx ry
    exact .inr ⟨_, _, rx, ry, q.1.1, q.1.2.1, q.1.2.2, k _ F H _ q.2 ok.refl ok (by simp only [RepR, Rep])⟩
  · exact q.elim
/-! ### == -/
mutual
def pyD : D → PyData
  | .non => .none
  | .bl b => .bool b
  | .int i => .int i
  | .str s => .str s
  | .tup xs => .tuple (pyDs xs)
  | .lst xs => .list (pyDs xs)
  | _ => .none
def pyDs : List D → List PyData
  | [] => []
  | d :: ds => pyD d :: pyDs ds
end
mutual
def okPy : D → Bool
  | .obj _ _ _ => false
  | .ty _ => false
  | .cls _ => false
  | .tup xs => okPys xs
  | .lst xs => okPys xs
  | _ => true
def okPys : List D → Bool
  | [] => true
  | d :: ds => okPy d && okPys ds
end
mutual
theorem dp_of {K : PySem.W.Frag} {H : Hp} : ∀ {d : D} {v : V}, okPy d = true → Rep K H d v → Dp K H v (pyD d)
  | .non, v, _, r => by simp only [Rep] at r; subst r; simp only [pyD]; exact .non
  | .bl b, v, _, r => by simp only [Rep] at r; subst r; simp only [pyD]; exact .bl b
  | .int b, v, _, r => by simp only [Rep] at r; subst r; simp only [pyD]; exact .int b
  | .str b, v, _, r => by simp only [Rep] at r; subst r; simp only [pyD]; exact .str b
  | .tup xs, v, o, r => by
    simp only [okPy] at o
    simp only [Rep] at r
    obtain ⟨a, vs, rfl, h1, h2⟩ := r
    simp only [pyD]
    exact .tup h1 (dps_of o h2)
  | .lst xs, v, o, r => by
    simp only [okPy] at o
    simp only [Rep] at r
    obtain ⟨a, vs, rfl, h1, h2⟩ := r
    simp only [pyD]
    exact .lst (.inl (.inl h1)) (dps_of o h2)
  | .obj _ _ _, v, o, r => by simp [okPy] at o
  | .ty _, v, o, r => by simp [okPy] at o
  | .cls _, v, o, r => by simp [okPy] at o
theorem dps_of {K : PySem.W.Frag} {H : Hp} : ∀ {ds : List D} {vs : List V}, okPys ds = true → RepL K H ds vs → DpAll K H vs (pyDs ds)
  | [], vs, _, r => by simp only [RepL] at r; subst r; simp only [pyDs]; exact .nil
  | d :: ds, vs, o, r => by
    simp only [okPys, Bool.and_eq_true] at o
    simp only [RepL] at r
    obtain ⟨v, u, rfl, h1, h2⟩ := r
    simp only [pyDs]
    exact .cons (dp_of o.1 h1) (dps_of o.2 h2)
end
def rEqA (K : PySem.W.Frag) : R2 := fun x y H Q => rEq x y H Q ∨ rEqD K x y H Q
def rNeA (K : PySem.W.Frag) : R2 := fun x y H Q => rNe x y H Q ∨ rNeD K x y H Q
theorem op_eqA (hu : X.A.units + 66 < cLine) : OpR X (compareOp .Eq) (rEqA X.K) := opR_or op_eq (op_eqD (by omega))
theorem op_neA (hu : X.A.units + 66 < cLine) : OpR X (compareOp .NotEq) (rNeA X.K) := opR_or op_ne (op_neD (by omega))
def eqlQ (neg : Bool) : Q2 := fun x y Q => match x, y with
  | .val (.int i), .val (.int j) => Q (.val (.bl (if neg then !decide (i = j) else decide (i = j))))
  | .val (.str i), .val (.str j) => Q (.val (.bl (if neg then !decide (i = j) else decide (i = j))))
  | .val (.bl i), .val (.bl j) => Q (.val (.bl (if neg then !decide (i = j) else decide (i = j))))
  | .val .non, .val .non => Q (.val (.bl (!neg)))
  | x, y => ∃ a b, asD x = some a ∧ asD y = some b ∧ okPy a = true ∧ okPy b = true ∧ SeqAt.shaped (pyD a) = true ∧ SeqAt.shaped (pyD b) = true ∧ Q (.val (.bl (if neg then !PyData.eqv (pyD a) (pyD b) else PyData.eqv (pyD a) (pyD b))))
abbrev eqQ : Q2 := eqlQ false
abbrev neQ : Q2 := eqlQ true
theorem mono_eqlQ {n : Bool} : MonoQ2 (eqlQ n) := fun x y Q Q' hq q => by
  unfold eqlQ at q ⊢
  split
  · exact hq _ q
  · exact hq _ q
  · exact hq _ q
  · exact hq _ q
  · split at q
    · simp_all
    · simp_all
    · simp_all
    · simp_all
    · obtain ⟨a, b, h1, h2, h3, h4, h5, h6, q⟩ := q
      exact ⟨a, b, h1, h2, h3, h4, h5, h6, hq _ q⟩
theorem d_eq : OpD g (rEqA g.K) eqQ := by
  intro T F env σ H Hs x y v w Q Qv ok rx ry q k
  unfold eqQ eqlQ at q
  split at q
  · rename_i i j
    simp only [RepR, Rep] at rx ry
    subst rx; subst ry
    refine .inl ⟨rfl, ?_⟩
    have e : decide (V.int i = V.int j) = decide (i = j) := by simp
    rw [e]
    exact k _ F H _ q ok.refl ok (by simp only [RepR, Rep]; rfl)
  · rename_i i j
    simp only [RepR, Rep] at rx ry
    subst rx; subst ry
    refine .inl ⟨rfl, ?_⟩
    have e : decide (V.str i = V.str j) = decide (i = j) := by simp
    rw [e]
    exact k _ F H _ q ok.refl ok (by simp only [RepR, Rep]; rfl)
  · rename_i i j
    simp only [RepR, Rep] at rx ry
    subst rx; subst ry
    refine .inl ⟨rfl, ?_⟩
    have e : decide (V.bl i = V.bl j) = decide (i = j) := by simp
    rw [e]
    exact k _ F H _ q ok.refl ok (by simp only [RepR, Rep]; rfl)
  · simp only [RepR, Rep] at rx ry
    subst rx; subst ry
    exact .inl ⟨rfl, k _ F H _ q ok.refl ok (by simp only [RepR, Rep]; rfl)⟩
  · obtain ⟨a, b, h1, h2, h3, h4, h5, h6, q⟩ := q
    have r1 := asD_rep ok h1 rx
    have r2 := asD_rep ok h2 ry
    exact .inr ⟨_, _, dp_of h3 r1, dp_of h4 r2, h5, h6, k _ F H _ q ok.refl ok (by simp only [RepR, Rep]; rfl)⟩
theorem d_ne : OpD g (rNeA g.K) neQ := by
  intro T F env σ H Hs x y v w Q Qv ok rx ry q k
  unfold neQ eqlQ at q
  split at q
  · rename_i i j
    simp only [RepR, Rep] at rx ry
    subst rx; subst ry
    refine .inl ⟨rfl, ?_⟩
    have e : decide (V.int i = V.int j) = decide (i = j) := by simp
    rw [e]
    exact k _ F H _ q ok.refl ok (by simp only [RepR, Rep]; rfl)
  · rename_i i j
    simp only [RepR, Rep] at rx ry
    subst rx; subst ry
    refine .inl ⟨rfl, ?_⟩
    have e : decide (V.str i = V.str j) = decide (i = j) := by simp
    rw [e]
    exact k _ F H _ q ok.refl ok (by simp only [RepR, Rep]; rfl)
  · rename_i i j
    simp only [RepR, Rep] at rx ry
    subst rx; subst ry
    refine .inl ⟨rfl, ?_⟩
    have e : decide (V.bl i = V.bl j) = decide (i = j) := by simp
    rw [e]
    exact k _ F H _ q ok.refl ok (by simp only [RepR, Rep]; rfl)
  · simp only [RepR, Rep] at rx ry
    subst rx; subst ry
    exact .inl ⟨rfl, k _ F H _ q ok.refl ok (by simp only [RepR, Rep]; rfl)⟩
  · obtain ⟨a, b, h1, h2, h3, h4, h5, h6, q⟩ := q
    have r1 := asD_rep ok h1 rx
    have r2 := asD_rep ok h2 ry
    exact .inr ⟨_, _, dp_of h3 r1, dp_of h4 r2, h5, h6, k _ F H _ q ok.refl ok (by simp only [RepR, Rep]; rfl)⟩
/-! ### in: one sign in a text; flat things in a list or tuple -/
def rInA (K : PySem.W.Frag) (neg : Bool) : R2 := fun x y H Q => (∃ (c : Nat) (z : Str), x = .str ⟨#[c]⟩ ∧ y = .str z ∧ Q (.bl (if neg then !decide (c ∈ z.cps.toList) else decide (c ∈ z.cps.toList))) H) ∨ rIn K neg x y H Q
theorem op_inA : OpR X (compareOp .In) (rInA X.K false) := opR_or op_in_sign op_in_seq
theorem op_notInA : OpR X (compareOp .NotIn) (rInA X.K true) := opR_or op_notIn_sign op_notIn_seq
def inlQ (neg : Bool) : Q2 := fun x y Q => match y with
  | .val (.str z) => ∃ c, x = .val (.str ⟨#[c]⟩) ∧ Q (.val (.bl (if neg then !decide (c ∈ z.cps.toList) else decide (c ∈ z.cps.toList))))
  | y => ∃ a v ds ws, asD x = some a ∧ flat a = some v ∧ asSeq y = some ds ∧ flats ds = some ws ∧ Q (.val (.bl (if neg then !inV v ws else inV v ws)))
abbrev inQ : Q2 := inlQ false
abbrev notInQ : Q2 := inlQ true
theorem mono_inlQ {n : Bool} : MonoQ2 (inlQ n) := fun x y Q Q' hq q => by
  unfold inlQ at q ⊢
  split
  · obtain ⟨c, h1, q⟩ := q
    exact ⟨c, h1, hq _ q⟩
  · split at q
    · simp_all
    · obtain ⟨a, v, ds, ws, h1, h2, h3, h4, q⟩ := q
      exact ⟨a, v, ds, ws, h1, h2, h3, h4, hq _ q⟩
theorem d_in {neg : Bool} : OpD g (rInA g.K neg) (inlQ neg) := by
  intro T F env σ H Hs x y v w Q Qv ok rx ry q k
  unfold inlQ at q
  split at q
  · obtain ⟨c, rfl, q⟩ := q
    simp only [RepR, Rep] at rx ry
    exact .inl ⟨_, _, rx, ry, k _ F H _ q ok.refl ok (by simp only [RepR, Rep])⟩
  · obtain ⟨a, v', ds, ws, h1, h2, h3, h4, q⟩ := q
    have r1 := asD_rep ok h1 rx
    obtain ⟨p, us, rfl, h5, h6⟩ := asSeq_rep ok h3 ry
    obtain ⟨rfl, h7⟩ := flats_rep h4 h6
    rw [flat_rep h2 r1]
    exact .inr ⟨p, us, rfl, h5, flat_flatV h2, h7, k _ F H _ q ok.refl ok (by simp only [RepR, Rep])⟩
/-! ### is None -/
def isNonD : D → Bool
  | .non => true
  | _ => false
def isNlQ (neg : Bool) : Q2 := fun x y Q => y = .val .non ∧ match x with
  | .val d => Q (.val (.bl (if neg then !isNonD d else isNonD d)))
  | .bor _ => Q (.val (.bl neg))
  | _ => False
abbrev isNQ : Q2 := isNlQ false
abbrev notNQ : Q2 := isNlQ true
theorem mono_isNlQ {n : Bool} : MonoQ2 (isNlQ n) := fun x y Q Q' hq q => by
  unfold isNlQ at q ⊢
  refine ⟨q.1, ?_⟩
  have q2 := q.2
  split
  · exact hq _ q2
  · exact hq _ q2
  · split at q2
    · simp_all
    · simp_all
    · exact q2
theorem isNon_rep {K : PySem.W.Frag} {d : D} (r : Rep K F d v) : decide (v = .non) = isNonD d := by
  cases d <;> simp only [Rep] at r
  · subst r; simp [isNonD]
  · subst r; simp [isNonD]
  · subst r; simp [isNonD]
  · subst r; simp [isNonD]
  · obtain ⟨a, vs, rfl, _⟩ := r; simp [isNonD]
  · obtain ⟨a, vs, rfl, _⟩ := r; simp [isNonD]
  · obtain ⟨a, dx, vs, rfl, _⟩ := r; simp [isNonD]
  · subst r; simp [isNonD]
  · subst r; simp [isNonD]
def rIsNA (neg : Bool) : R2 := fun x y H Q => y = .non ∧ Q (.bl (if neg then !decide (x = .non) else decide (x = .non))) H
theorem op_isNA : OpR X (compareOp .Is) (rIsNA false) := op_isN
theorem op_notNA : OpR X (compareOp .IsNot) (rIsNA true) := op_notN
theorem d_isN {neg : Bool} : OpD g (rIsNA neg) (isNlQ neg) := by
  intro T F env σ H Hs x y v w Q Qv ok rx ry q k
  unfold isNlQ at q
  obtain ⟨rfl, q⟩ := q
  simp only [RepR, Rep] at ry
  refine ⟨ry, ?_⟩
  split at q
  · rename_i d
    rw [isNon_rep rx]
    exact k _ F H _ q ok.refl ok (by simp only [RepR, Rep])
  · obtain ⟨i, e1, e2⟩ := rx
    obtain ⟨a, e3, _⟩ := ok.own i _ e1
    rw [e2] at e3
    cases e3
    have e : decide ((V.ref a) = .non) = false := by simp
    rw [e]
    cases neg <;> exact k _ F H _ q ok.refl ok (by simp only [RepR, Rep]; rfl)
  · exact q.elim
/-! ### subscripts -/
theorem atI_rep {K : PySem.W.Frag} {ds : List D} {vs : List V} {i : Int} {d : D} (r : RepL K F ds vs) (h : atI ds i = some d) : ∃ v, atI vs i = some v ∧ Rep K F d v := by
  unfold atI at h ⊢
  rw [r.length] at h
  cases e : ixN vs.length i with
  | none => rw [e] at h; simp at h
  | some j =>
    rw [e] at h
    simp only [Option.bind_some] at h ⊢
    exact r.get h
def ixQ : Q2 := fun x y Q => ∃ i, y = .val (.int i) ∧ match x with
  | .val (.str s) => ∃ c, s.length ≤ LIM ∧ atI s.cps.toList i = some c ∧ Q (.val (.str ⟨#[c]⟩))
  | x => ∃ ds d, asSeq x = some ds ∧ atI ds i = some d ∧ Q (.val d)
theorem mono_ixQ : MonoQ2 ixQ := fun x y Q Q' hq q => by
  unfold ixQ at q ⊢
  obtain ⟨i, h, q⟩ := q
  refine ⟨i, h, ?_⟩
  split
  · obtain ⟨c, h1, h2, q⟩ := q
    exact ⟨c, h1, h2, hq _ q⟩
  · split at q
    · simp_all
    · obtain ⟨ds, d, h1, h2, q⟩ := q
      exact ⟨ds, d, h1, h2, hq _ q⟩
theorem d_ix : OpD g (rIx g.K) ixQ := by
  intro T F env σ H Hs x y v w Q Qv ok rx ry q k
  unfold ixQ at q
  obtain ⟨i, rfl, q⟩ := q
  simp only [RepR, Rep] at ry
  subst ry
  split at q
  · obtain ⟨c, h1, h2, q⟩ := q
    simp only [RepR, Rep] at rx
    exact .inr (.inr ⟨_, i, c, rx, rfl, lim_line h1, h2, k _ F H _ q ok.refl ok (by simp only [RepR, Rep])⟩)
  · obtain ⟨ds, d, h1, h2, q⟩ := q
    obtain ⟨a, vs, rfl, h5, h6⟩ := asSeq_rep ok h1 rx
    obtain ⟨u, h7, h8⟩ := atI_rep h6 h2
    have q2 := k _ F H u q ok.refl ok h8
    rcases h5 with h5 | h5
    · exact .inl ⟨a, vs, i, u, rfl, rfl, h5, h7, q2⟩
    · exact .inr (.inl ⟨a, vs, i, u, rfl, rfl, h5, h7, q2⟩)
/-! ### slices -/
abbrev OD := En → (Option Int → Prop) → (Exc → Prop) → Prop
def tDO (g : G) (W : WX) (c : Nat) (f : OD) : TO := fun σ H Q => ∃ T F env, T + c ≤ T + c ∧ Ok g T F env σ H ∧ f env (fun o => ∀ F' H', Grow g.st F H F' H' → Ok g (T + c) F' env σ H' → Q o H') (exE g T c F env σ H W)
structure DO (X : Cx) (g : G) (W : WX) (c : Nat) (e : Option Expr) (f : OD) : Prop where
  po : PO X e (tDO g W c f)
  mono : MonoE f
theorem POimp {e : Option Expr} {t t' : TO} (h : PO X e t) (i : ∀ σ H Q, t' σ H Q → t σ H Q) : PO X e t' := ⟨fun pins s σ H Q I q => h.run pins s σ H Q I (i σ H Q q)⟩
def oNone : OD := fun _ Q _ => Q none
def oSome (f : ED) : OD := fun env Q E => f env (fun r => match r with | .val (.int i) => Q (some i) | _ => False) E
variable {fa fb : ED}
theorem do_none : DO X g W 0 none oNone := ⟨POimp po_none fun σ H Q ⟨T, F, env, hT, ok, h⟩ => h F H ok.refl ok, fun env Q Q' E E' hq he q => hq _ q⟩
theorem do_some {e : Expr} (h : DE X g W ca e fa) : DO X g W ca (some e) (oSome fa) := by
  refine ⟨POimp (po_some h.pe) fun σ H Q ⟨T, F, env, hT, ok, q⟩ => ?_, fun env Q Q' E E' hq he q => h.mono env _ _ _ _ (fun r q => ?_) he q⟩
  · refine run_e ok hT h.mono q (fun x hx F1 H1 v w o rx => ?_) (exE.shift ok.refl (by omega))
    split at hx
    · rename_i i
      simp only [RepR, Rep] at rx
      exact ⟨i, rx, hx F1 H1 w o⟩
    · exact hx.elim
  · split at q
    · exact hq _ q
    · exact q
abbrev QS := RV → Option Int → Option Int → (RV → Prop) → Prop
def cutD (xs : List D) (lo hi : Option Int) : List D := (xs.drop (HT.sIx xs.length 0 lo)).take (HT.sIx xs.length xs.length hi - HT.sIx xs.length 0 lo)
def sliceQ : QS := fun x lo hi Q => match x with
  | .val (.str s) => s.length ≤ LIM ∧ Q (.val (.str (cutS s lo hi)))
  | .val (.tup xs) => Q (.val (.tup (cutD xs lo hi)))
  | x => ∃ xs, asL x = some xs ∧ Q (.own (cutD xs lo hi))
def eSlice (fa : ED) (fl fh : OD) : ED := fun env Q E => frz fa env (fun x => fl env (fun lo => fh env (fun hi => sliceQ x lo hi Q) E) E) E
theorem cut_rep {K : PySem.W.Frag} {ds : List D} {vs : List V} {lo hi : Option Int} (r : RepL K F ds vs) : RepL K F (cutD ds lo hi) (cutV vs lo hi) := by
  unfold cutD cutV
  rw [r.length]
  exact (r.drop _).take _
def rSlX3 (K : PySem.W.Frag) : V → Option Int → Option Int → Hp → VK → Prop := fun x lo hi H Q => rSlA K x lo hi H Q ∨ (rSlL K x lo hi H Q ∨ rSlS x lo hi H Q)
theorem sl_any : SlR X (rSlX3 X.K) := SlR.or sl_tupA (SlR.or sl_list sl_str)
theorem mono_sliceQ {x : RV} {lo hi : Option Int} {Q Q' : RV → Prop} (hq : ∀ r, Q r → Q' r) (q : sliceQ x lo hi Q) : sliceQ x lo hi Q' := by
  unfold sliceQ at q ⊢
  split
  · exact ⟨q.1, hq _ q.2⟩
  · exact hq _ q
  · split at q
    · simp_all
    · simp_all
    · obtain ⟨xs, h1, q⟩ := q
      exact ⟨xs, h1, hq _ q⟩
theorem sem_slice {lo hi : Option Int} {Q : RV → Prop} {Qv : VK} (ok : Ok g T F env σ H) (rx : RepR g Hs F H env σ x v) (q : sliceQ x lo hi Q)
    (k : ∀ z F' H' u, Q z → Grow g.st F H F' H' → Ok g T F' env σ H' → RepR g H F' H' env σ z u → Qv u H') : rSlX3 g.K v lo hi H Qv := by
  unfold sliceQ at q
  split at q
  · simp only [RepR, Rep] at rx
    exact .inr (.inr ⟨_, rx, lim_line q.1, k _ F H _ q.2 ok.refl ok (by simp only [RepR, Rep])⟩)
  · rename_i ds
    have rx' := rx
    simp only [RepR, Rep] at rx
    obtain ⟨a, vs, rfl, h1, h2⟩ := rx
    refine .inl ⟨a, vs, rfl, Evl.ex_t ok.fh h1, fun e => ?_, fun _ p hp => ?_⟩
    · have e2 : cutD ds lo hi = ds := by
        unfold cutD
        rw [h2.length, e.1, e.2, List.drop_zero, Nat.sub_zero, ← h2.length, List.take_length]
      rw [e2] at q
      exact k _ F H _ q ok.refl ok rx'
    · refine k _ _ _ _ q (Grow.newF ok.fh ok.sto.free ok.sto.some hp) (ok.newF hp) ?_
      simp only [RepR, Rep]
      exact ⟨p, _, rfl, .inl (.inl upd_same), (cut_rep h2).mono (Evl.Ex.new (Evl.fresh_back ok.fh hp))⟩
  · obtain ⟨ds, h1, q⟩ := q
    obtain ⟨a, vs, rfl, ha, hx⟩ := asL_rep ok h1 rx
    exact .inr (.inl ⟨a, vs, rfl, .inl (.inl ha), fun p hp => k _ F _ _ q (Grow.new ok.fh ok.sto.free hp) (ok.new hp) (RepR.made ok hp (cut_rep hx))⟩)
theorem de_slice (cy : Cy X g W) {e : Expr} {lo hi : Option Expr} {fl fh : OD} {p2 pos : Pos} (ha : DE X g W ca e fa) (hl : DO X g W cb lo fl) (hh : DO X g W cc hi fh) : DE X g W (ca + (cb + cc)) (.Subscript e (.Slice lo hi none p2) pos) (eSlice fa fl fh) := by
  have hs := sl_any (X := X)
  rw [cy.k] at hs
  refine ⟨PEimp (pe_slice hs ha.frz.pe hl.po hh.po) fun σ H Q ⟨T, F, env, hT, ok, h⟩ => ?_, fun env Q Q' E E' hq he h => ha.frz.mono env _ _ _ _ (fun x hx => hl.mono env _ _ _ _ (fun l hl' => hh.mono env _ _ _ _ (fun u q => mono_sliceQ hq q) he hl') he hx) he h⟩
  refine run_e ok (by omega) ha.frz.mono h (fun x hx F1 H1 v w o rx => ?_) (exE.shift ok.refl (by omega))
  refine ⟨T + ca, F1, env, by omega, o, hl.mono env _ _ _ _ (fun l hx2 F2 H2 w2 o2 => ?_) (exE.shift w (by omega)) hx⟩
  refine ⟨T + ca + cb, F2, env, by omega, o2, hh.mono env _ _ _ _ (fun u hx3 F3 H3 w3 o3 => ?_) (exE.shift (w.trans w2) (by omega)) hx2⟩
  exact sem_slice o3 ((rx.grow w2).grow w3) hx3 fun z F' H' u qz w4 o4 rz => qz F' H' u (w.trans (w2.trans (w3.trans w4))) (o4.up (by omega)) (rz.since (w.trans (w2.trans w3)))
end
end DL

namespace DL
open PySem PySem.Spec L2
section
variable {X : Cx} {g : G} {W : WX} {T ca cb cc : Nat} {F H Hs : Hp} {env : En} {σ : St} {x y r : RV} {v w : V} {xs ys : List D}
/-! ### built-in functions by values -/
theorem rs1 {rs : List RV} {vs : List V} {x : RV} (h : RepRs g Hs F H env σ [x] vs) : ∃ v, vs = [v] ∧ RepR g Hs F H env σ x v := by
  obtain ⟨v, w, rfl, h1, h2⟩ := h
  have e : w = [] := h2
  subst e
  exact ⟨v, rfl, h1⟩
theorem rs2 {vs : List V} {x y : RV} (h : RepRs g Hs F H env σ [x, y] vs) : ∃ v u, vs = [v, u] ∧ RepR g Hs F H env σ x v ∧ RepR g Hs F H env σ y u := by
  obtain ⟨v, w, rfl, h1, h2⟩ := h
  obtain ⟨u, rfl, h3⟩ := rs1 (rs := []) h2
  exact ⟨v, u, rfl, h1, h3⟩
/-- len -/
def lenQ : QC := fun rs Q => match rs with
  | [.val (.str s)] => s.length ≤ LIM ∧ Q (.val (.int s.length))
  | [x] => ∃ xs, asSeq x = some xs ∧ Q (.val (.int xs.length))
  | _ => False
theorem mono_lenQ : MonoC lenQ := fun xs Q Q' hq q => by
  unfold lenQ at q ⊢
  split
  · exact ⟨q.1, hq _ q.2⟩
  · split at q
    · simp_all
    · obtain ⟨xs, h, q⟩ := q
      simp_all
    · exact q.elim
  · split at q
    · simp_all
    · simp_all
    · exact q
theorem d_len : CallD g (fun xs H Q => ∃ x n, xs = [x] ∧ LenV g.K x H n ∧ Q (.int n) H) lenQ := by
  intro T F env σ H Hs xs vs Q Qv ok rs q k
  unfold lenQ at q
  split at q
  · obtain ⟨v, rfl, r⟩ := rs1 (rs := []) rs
    simp only [RepR, Rep] at r
    subst r
    exact ⟨_, _, rfl, ⟨lim_line q.1, rfl⟩, k _ F H _ q.2 ok.refl ok (by simp only [RepR, Rep])⟩
  · obtain ⟨v, rfl, r⟩ := rs1 (rs := []) rs
    obtain ⟨ds, h, q⟩ := q
    obtain ⟨a, us, rfl, h1, h2⟩ := asSeq_rep ok h r
    have q2 := k _ F H (.int ds.length) q ok.refl ok (by simp only [RepR, Rep])
    rw [h2.length] at q2
    refine ⟨_, _, rfl, ?_, q2⟩
    rcases h1 with h1 | h1
    · exact .inl ⟨us, h1, rfl⟩
    · exact .inr ⟨us, h1, rfl⟩
  · exact q.elim
/-- abs -/
def absQ : QC := fun rs Q => match rs with
  | [.val (.int i)] => Q (.val (.int (if i < 0 then -i else i)))
  | _ => False
theorem mono_absQ : MonoC absQ := fun xs Q Q' hq q => by
  unfold absQ at q ⊢
  split
  · exact hq _ q
  · split at q
    · simp_all
    · exact q
theorem d_abs : CallD g (fun xs H Q => ∃ i, xs = [.int i] ∧ Q (.int (if i < 0 then -i else i)) H) absQ := by
  intro T F env σ H Hs xs vs Q Qv ok rs q k
  unfold absQ at q
  split at q
  · obtain ⟨v, rfl, r⟩ := rs1 (rs := []) rs
    simp only [RepR, Rep] at r
    subst r
    exact ⟨_, rfl, k _ F H _ q ok.refl ok (by simp only [RepR, Rep])⟩
  · exact q.elim
/-- int of an int, a bool -/
def intOfQ : QC := fun rs Q => match rs with
  | [.val (.int i)] => Q (.val (.int i))
  | [.val (.bl k)] => Q (.val (.int (if k then 1 else 0)))
  | _ => False
theorem mono_intOfQ : MonoC intOfQ := fun xs Q Q' hq q => by
  unfold intOfQ at q ⊢
  split
  · exact hq _ q
  · exact hq _ q
  · split at q
    · simp_all
    · simp_all
    · exact q
theorem d_intOf : CallD g (fun xs H Q => (∃ i, xs = [.int i] ∧ Q (.int i) H) ∨ ∃ k, xs = [.bl k] ∧ Q (.int (if k then 1 else 0)) H) intOfQ := by
  intro T F env σ H Hs xs vs Q Qv ok rs q k
  unfold intOfQ at q
  split at q
  · obtain ⟨v, rfl, r⟩ := rs1 (rs := []) rs
    simp only [RepR, Rep] at r
    subst r
    exact .inl ⟨_, rfl, k _ F H _ q ok.refl ok (by simp only [RepR, Rep])⟩
  · obtain ⟨v, rfl, r⟩ := rs1 (rs := []) rs
    simp only [RepR, Rep] at r
    subst r
    exact .inr ⟨_, rfl, k _ F H _ q ok.refl ok (by simp only [RepR, Rep])⟩
  · exact q.elim
/-- str of an int -/
def strOfQ : QC := fun rs Q => match rs with
  | [.val (.int i)] => i.natAbs.log2 < 1920 ∧ Q (.val (.str (toString i)))
  | _ => False
theorem mono_strOfQ : MonoC strOfQ := fun xs Q Q' hq q => by
  unfold strOfQ at q ⊢
  split
  · exact ⟨q.1, hq _ q.2⟩
  · split at q
    · simp_all
    · exact q
theorem d_strOf : CallD g (fun xs H Q => ∃ i, xs = [.int i] ∧ i.natAbs.log2 < 1920 ∧ Q (.str (toString i)) H) strOfQ := by
  intro T F env σ H Hs xs vs Q Qv ok rs q k
  unfold strOfQ at q
  split at q
  · obtain ⟨v, rfl, r⟩ := rs1 (rs := []) rs
    simp only [RepR, Rep] at r
    subst r
    exact ⟨_, rfl, q.1, k _ F H _ q.2 ok.refl ok (by simp only [RepR, Rep])⟩
  · exact q.elim
/-- list(x), tuple(x) of a list or a tuple -/
def listOfQ : QC := fun rs Q => match rs with
  | [x] => ∃ xs, asSeq x = some xs ∧ Q (.own xs)
  | _ => False
theorem mono_listOfQ : MonoC listOfQ := fun xs Q Q' hq q => by
  unfold listOfQ at q ⊢
  split
  · obtain ⟨xs, h, q⟩ := q
    exact ⟨xs, h, hq _ q⟩
  · split at q
    · simp_all
    · exact q
theorem d_listOf : CallD g (fun xs H Q => ∃ p ys, xs = [.ref p] ∧ (SqL g.K H p ys ∨ SqT g.K H p ys) ∧ ∀ l, H l = none → Q (.ref l) (upd H l (.lst ys))) listOfQ := by
  intro T F env σ H Hs xs vs Q Qv ok rs q k
  unfold listOfQ at q
  split at q
  · obtain ⟨v, rfl, r⟩ := rs1 (rs := []) rs
    obtain ⟨ds, h, q⟩ := q
    obtain ⟨a, us, rfl, h1, h2⟩ := asSeq_rep ok h r
    exact ⟨a, us, rfl, h1, fun p hp => k _ F _ _ q (Grow.new ok.fh ok.sto.free hp) (ok.new hp) (RepR.made ok hp h2)⟩
  · exact q.elim
def tupOfQ : QC := fun rs Q => match rs with
  | [x] => ∃ xs, asSeq x = some xs ∧ Q (.val (.tup xs))
  | _ => False
theorem mono_tupOfQ : MonoC tupOfQ := fun xs Q Q' hq q => by
  unfold tupOfQ at q ⊢
  split
  · obtain ⟨xs, h, q⟩ := q
    exact ⟨xs, h, hq _ q⟩
  · split at q
    · simp_all
    · exact q
/-- as seen: a list, or a tuple that is frozen -/
theorem asSeq_cases (ok : Ok g T F env σ H) (h : asSeq x = some xs) (r : RepR g Hs F H env σ x v) : (∃ a vs, v = .ref a ∧ H a = some (.lst vs) ∧ RepL g.K F xs vs) ∨ (∃ a vs, v = .ref a ∧ SqT g.K F a vs ∧ RepL g.K F xs vs) := by
  cases x with
  | val e =>
    cases e with
    | lst ys => exact .inl (asL_rep (x := .val (.lst ys)) (xs := xs) ok (by simpa [asSeq, asL] using h) r)
    | tup ys =>
      simp only [asSeq, Option.some.injEq] at h
      subst h
      simp only [RepR, Rep] at r
      exact .inr r
    | _ => simp [asSeq] at h
  | bor ys => exact .inl (asL_rep (x := .bor ys) (xs := xs) ok (by simpa [asSeq, asL] using h) r)
  | own ys => simp [asSeq] at h
  | sto => simp [asSeq] at h
theorem d_tupOf : CallD g (fun xs H Q => ∃ p ys, xs = [.ref p] ∧ ((SqL g.K H p ys ∧ ∀ l, H l = none → Q (.ref l) (upd H l (.tup ys))) ∨ (SqT g.K H p ys ∧ Q (.ref p) H))) tupOfQ := by
  intro T F env σ H Hs xs vs Q Qv ok rs q k
  unfold tupOfQ at q
  split at q
  · obtain ⟨v, rfl, r⟩ := rs1 (rs := []) rs
    obtain ⟨ds, h, q⟩ := q
    rcases asSeq_cases ok h r with ⟨a, us, rfl, h1, h2⟩ | ⟨a, us, rfl, h1, h2⟩
    · refine ⟨a, us, rfl, .inl ⟨.inl (.inl h1), fun p hp => k _ _ _ _ q (Grow.newF ok.fh ok.sto.free ok.sto.some hp) (ok.newF hp) ?_⟩⟩
      simp only [RepR, Rep]
      exact ⟨p, us, rfl, .inl (.inl upd_same), h2.mono (Evl.Ex.new (Evl.fresh_back ok.fh hp))⟩
    · refine ⟨a, us, rfl, .inr ⟨Evl.ex_t ok.fh h1, k _ F H _ q ok.refl ok ?_⟩⟩
      simp only [RepR, Rep]
      exact ⟨a, us, rfl, h1, h2⟩
  · exact q.elim
/-- all, any of a list of truth values -/
def bools : List D → Option (List Bool)
  | [] => some []
  | .bl b :: ds => (bools ds).map (b :: ·)
  | _ => none
theorem bools_map : ∀ (bs : List Bool), bools (bs.map D.bl) = some bs
  | [] => rfl
  | b :: bs => by simp only [List.map_cons, bools, bools_map bs, Option.map_some]
theorem bools_rep {K : PySem.W.Frag} : ∀ {ds : List D} {bs : List Bool} {vs : List V}, bools ds = some bs → RepL K F ds vs → vs = bs.map V.bl
  | [], _, _, h, r => by
    simp only [bools, Option.some.injEq] at h
    simp only [RepL] at r
    subst h; subst r; rfl
  | d :: ds, _, _, h, r => by
    simp only [RepL] at r
    obtain ⟨v, u, rfl, h1, h2⟩ := r
    unfold bools at h
    split at h
    · rename_i e; cases e
    · rename_i b ds' e
      cases e
      cases e2 : bools ds with
      | none => rw [e2] at h; cases h
      | some bs =>
        rw [e2] at h
        simp only [Option.map_some, Option.some.injEq] at h
        subst h
        simp only [Rep] at h1
        rw [h1, bools_rep e2 h2]
        rfl
    · cases h
def allQ (any : Bool) : QC := fun rs Q => match rs with
  | [x] => ∃ xs bs, asL x = some xs ∧ bools xs = some bs ∧ Q (.val (.bl (if any then bs.any id else bs.all id)))
  | _ => False
theorem mono_allQ {n : Bool} : MonoC (allQ n) := fun xs Q Q' hq q => by
  unfold allQ at q ⊢
  split
  · obtain ⟨xs, bs, h, h2, q⟩ := q
    exact ⟨xs, bs, h, h2, hq _ q⟩
  · split at q
    · simp_all
    · exact q
theorem d_all : CallD g (rAll g.K) (allQ false) := by
  intro T F env σ H Hs xs vs Q Qv ok rs q k
  unfold allQ at q
  split at q
  · obtain ⟨v, rfl, r⟩ := rs1 (rs := []) rs
    obtain ⟨ds, bs, h, h2, q⟩ := q
    obtain ⟨a, us, rfl, h3, h4⟩ := asL_rep ok h r
    have e := bools_rep h2 h4
    subst e
    exact ⟨a, bs, rfl, .inl (.inl h3), k _ F H _ q ok.refl ok (by simp only [RepR, Rep]; rfl)⟩
  · exact q.elim
theorem d_any : CallD g (rAny g.K) (allQ true) := by
  intro T F env σ H Hs xs vs Q Qv ok rs q k
  unfold allQ at q
  split at q
  · obtain ⟨v, rfl, r⟩ := rs1 (rs := []) rs
    obtain ⟨ds, bs, h, h2, q⟩ := q
    obtain ⟨a, us, rfl, h3, h4⟩ := asL_rep ok h r
    have e := bools_rep h2 h4
    subst e
    exact ⟨a, bs, rfl, .inl (.inl h3), k _ F H _ q ok.refl ok (by simp only [RepR, Rep]; rfl)⟩
  · exact q.elim
/-- max, min of two ints -/
def max2Q : QC := fun rs Q => match rs with
  | [.val (.int i), .val (.int j)] => Q (.val (.int (if j > i then j else i)))
  | _ => False
def min2Q : QC := fun rs Q => match rs with
  | [.val (.int i), .val (.int j)] => Q (.val (.int (if j < i then j else i)))
  | _ => False
theorem mono_max2Q : MonoC max2Q := fun xs Q Q' hq q => by
  unfold max2Q at q ⊢
  split
  · exact hq _ q
  · split at q
    · simp_all
    · exact q
theorem mono_min2Q : MonoC min2Q := fun xs Q Q' hq q => by
  unfold min2Q at q ⊢
  split
  · exact hq _ q
  · split at q
    · simp_all
    · exact q
theorem d_max2 : CallD g (fun xs H Q => ∃ i j, xs = [.int i, .int j] ∧ Q (.int (if j > i then j else i)) H) max2Q := by
  intro T F env σ H Hs xs vs Q Qv ok rs q k
  unfold max2Q at q
  split at q
  · obtain ⟨v, u, rfl, r1, r2⟩ := rs2 rs
    simp only [RepR, Rep] at r1 r2
    subst r1; subst r2
    exact ⟨_, _, rfl, k _ F H _ q ok.refl ok (by simp only [RepR, Rep])⟩
  · exact q.elim
theorem d_min2 : CallD g (fun xs H Q => ∃ i j, xs = [.int i, .int j] ∧ Q (.int (if j < i then j else i)) H) min2Q := by
  intro T F env σ H Hs xs vs Q Qv ok rs q k
  unfold min2Q at q
  split at q
  · obtain ⟨v, u, rfl, r1, r2⟩ := rs2 rs
    simp only [RepR, Rep] at r1 r2
    subst r1; subst r2
    exact ⟨_, _, rfl, k _ F H _ q ok.refl ok (by simp only [RepR, Rep])⟩
  · exact q.elim
/-- isinstance of data and a built-in class -/
def tyName : D → Option String
  | .non => some "NoneType"
  | .bl _ => some "bool"
  | .int _ => some "int"
  | .str _ => some "str"
  | .tup _ => some "tuple"
  | .lst _ => some "list"
  | _ => none
def isiQ : QC := fun rs Q => match rs with
  | [x, .val (.ty n)] => ∃ d t b, asD x = some d ∧ tyName d = some t ∧ kitB t n = some b ∧ Q (.val (.bl b))
  | _ => False
theorem mono_isiQ : MonoC isiQ := fun xs Q Q' hq q => by
  unfold isiQ at q ⊢
  split
  · obtain ⟨d, t, b, h1, h2, h3, q⟩ := q
    exact ⟨d, t, b, h1, h2, h3, hq _ q⟩
  · split at q
    · simp_all
    · exact q
theorem ty_of {K : PySem.W.Frag} {H : Hp} {d : D} {t : String} (h : tyName d = some t) (r : Rep K H d v) : TyX K H v (.type t) := by
  cases d <;> simp only [tyName, Option.some.injEq, reduceCtorEq] at h <;> subst h <;> simp only [Rep] at r
  · subst r; exact .base .non
  · subst r; exact .base (.bl _)
  · subst r; exact .base (.int _)
  · subst r; exact .base (.str _)
  · obtain ⟨a, vs, rfl, h1, h2⟩ := r
    rcases h1 with (h1 | ⟨o, h1⟩) | ⟨o, its, n, h1, hc, _⟩
    · exact .base (.tup h1)
    · exact .fTuple h1
    · exact .kTuple h1 hc
  · obtain ⟨a, vs, rfl, h1, h2⟩ := r
    exact .base (.lst h1)
theorem d_isi : CallD g (rIsi g.K) isiQ := by
  intro T F env σ H Hs xs vs Q Qv ok rs q k
  unfold isiQ at q
  split at q
  · obtain ⟨v, u, rfl, r1, r2⟩ := rs2 rs
    obtain ⟨d, t, b, h1, h2, h3, q⟩ := q
    simp only [RepR, Rep] at r2
    subst r2
    exact ⟨_, _, _, _, b, rfl, .ty _, ty_of h2 (asD_rep ok h1 r1), kit_ty h3, k _ F H _ q ok.refl ok (by simp only [RepR, Rep])⟩
  · exact q.elim
/-! ### displays -/
def vals : List RV → Option (List D)
  | [] => some []
  | .val d :: rs => (vals rs).map (d :: ·)
  | _ => none
theorem vals_rep : ∀ {rs : List RV} {ds : List D} {vs : List V}, vals rs = some ds → RepRs g Hs F H env σ rs vs → RepL g.K F ds vs
  | [], _, _, h, r => by
    simp only [vals, Option.some.injEq] at h
    subst h
    exact repL_nil.mpr r
  | x :: rs, _, _, h, r => by
    obtain ⟨v, u, rfl, h1, h2⟩ := r
    unfold vals at h
    split at h
    · rename_i e; cases e
    · rename_i d rs' e
      cases e
      cases e2 : vals rs with
      | none => rw [e2] at h; cases h
      | some ds =>
        rw [e2] at h
        simp only [Option.map_some, Option.some.injEq] at h
        subst h
        exact repL_cons.mpr ⟨v, u, rfl, h1, vals_rep e2 h2⟩
    · cases h
def eTup (fa : AD) : ED := fun env Q E => fa env (fun rs => ∃ ds, vals rs = some ds ∧ ds.length ≤ LIM ∧ Q (.val (.tup ds))) E
def eLst (fa : AD) : ED := fun env Q E => fa env (fun rs => ∃ ds, vals rs = some ds ∧ ds.length ≤ LIM ∧ Q (.own ds)) E
theorem de_tup {es : List Expr} {fa : AD} {x1} {pos : Pos} (ha : DA X g W ca es fa) : DE X g W ca (.Tuple es x1 pos) (eTup fa) := by
  refine ⟨PEimp (pe_tup ha.pa) fun σ H Q ⟨T, F, env, hT, ok, h⟩ => ?_, fun env Q Q' E E' hq he h => ha.mono env _ _ _ _ (fun rs ⟨ds, h1, h2, q⟩ => ⟨ds, h1, h2, hq _ q⟩) he h⟩
  refine run_a ok (by omega) ha.mono h (fun rs ⟨ds, h1, h2, q⟩ F1 H1 vs w o rx => ?_) (exE.shift ok.refl (by omega))
  have r := vals_rep h1 rx
  refine ⟨lim_line (by rw [← r.length]; exact h2), fun p hp => q _ _ _ (w.trans (Grow.newF o.fh o.sto.free o.sto.some hp)) (o.newF hp) ?_⟩
  simp only [RepR, Rep]
  exact ⟨p, vs, rfl, .inl (.inl upd_same), r.mono (Evl.Ex.new (Evl.fresh_back o.fh hp))⟩
theorem de_lst {es : List Expr} {fa : AD} {pos : Pos} (ha : DA X g W ca es fa) : DE X g W ca (.List es pos) (eLst fa) := by
  refine ⟨PEimp (pe_lst ha.pa) fun σ H Q ⟨T, F, env, hT, ok, h⟩ => ?_, fun env Q Q' E E' hq he h => ha.mono env _ _ _ _ (fun rs ⟨ds, h1, h2, q⟩ => ⟨ds, h1, h2, hq _ q⟩) he h⟩
  refine run_a ok (by omega) ha.mono h (fun rs ⟨ds, h1, h2, q⟩ F1 H1 vs w o rx => ?_) (exE.shift ok.refl (by omega))
  have r := vals_rep h1 rx
  exact ⟨lim_line (by rw [← r.length]; exact h2), fun p hp => q _ _ _ (w.trans (Grow.new o.fh o.sto.free hp)) (o.new hp) ((RepR.made o hp r).since w)⟩
/-! ### truth -/
def truQ (x : RV) (Q : Bool → Prop) : Prop := match x with
  | .val .non => Q false
  | .val (.bl b) => Q b
  | .val (.int i) => Q (i != 0)
  | .val (.str s) => s.length ≤ LIM ∧ Q ((s.length : Int) != 0)
  | x => ∃ xs, asSeq x = some xs ∧ Q (!xs.isEmpty)
def tTruD (fa : ED) : TD := fun env Q E => frz fa env (fun x => truQ x Q) E
theorem mono_truQ {x : RV} {Q Q' : Bool → Prop} (hq : ∀ b, Q b → Q' b) (q : truQ x Q) : truQ x Q' := by
  unfold truQ at q ⊢
  split
  · exact hq _ q
  · exact hq _ q
  · exact hq _ q
  · exact ⟨q.1, hq _ q.2⟩
  · split at q
    · simp_all
    · simp_all
    · simp_all
    · simp_all
    · obtain ⟨xs, h, q⟩ := q
      exact ⟨xs, h, hq _ q⟩
theorem isEmpty_repL {K : PySem.W.Frag} {ds : List D} {vs : List V} (r : RepL K F ds vs) : ds.isEmpty = vs.isEmpty := by
  cases ds with
  | nil => rw [repL_nil] at r; subst r; rfl
  | cons d ds => rw [repL_cons] at r; obtain ⟨v, u, rfl, _⟩ := r; rfl
theorem dt_tru (cy : Cy X g W) {e : Expr} {fa : ED} (ha : DE X g W ca e fa) (he : ∀ whole, isTrue e X.env whole = (do let v ← whole; standAt e.pos; holding [v] (truthy v)) := by intro _; rfl) : DT X g W ca e (tTruD fa) := by
  have hp := pt_truth ha.frz.pe he
  rw [cy.k] at hp
  refine ⟨PTimp hp fun σ H Q ⟨T, F, env, hT, ok, h⟩ => ?_, fun env Q Q' E E' hq he h => ha.frz.mono env _ _ _ _ (fun x q => mono_truQ hq q) he h⟩
  refine run_e ok (by omega) ha.frz.mono h (fun x q F1 H1 v w o rx => ?_) (exE.shift ok.refl (by omega))
  unfold truQ at q
  split at q
  · simp only [RepR, Rep] at rx; subst rx; exact ⟨false, rfl, q F1 H1 w o⟩
  · simp only [RepR, Rep] at rx; subst rx; exact ⟨_, rfl, q F1 H1 w o⟩
  · simp only [RepR, Rep] at rx; subst rx; exact ⟨_, rfl, q F1 H1 w o⟩
  · simp only [RepR, Rep] at rx; subst rx; exact ⟨_, ⟨lim_line q.1, rfl⟩, q.2 F1 H1 w o⟩
  · obtain ⟨ds, h1, q⟩ := q
    obtain ⟨a, us, rfl, h2, h3⟩ := asSeq_rep o h1 rx
    refine ⟨_, ?_, q F1 H1 w o⟩
    rw [isEmpty_repL h3]
    rcases h2 with h2 | h2
    · exact .inl ⟨us, h2, rfl⟩
    · exact .inr (.inl ⟨us, h2, rfl⟩)
end
end DL

namespace DL
open PySem PySem.Spec L2
/-- a walk whose turns give the items; while Fs stays -/
structure Wk (g : G) (J : It) (items : List D) (Fs : Hp) : Prop where
  go : ∀ {i : Nat} {F H : Hp}, Ex Fs F → Ex F H → i < items.length → J.go i H
  stop : ∀ {i : Nat} {F H : Hp}, Ex Fs F → Ex F H → items.length ≤ i → J.stop i H
  yld : ∀ {i T : Nat} {F H : Hp} {env : En} {σ : St} {x : V} {H' : Hp}, i < items.length → Ex Fs F → Ok g T F env σ H → J.yld i H x H' → ∃ d F', items[i]? = some d ∧ Grow g.st F H F' H' ∧ Ok g T F' env σ H' ∧ Rep g.K F' d x
abbrev ID := En → (List D → Prop) → (Exc → Prop) → Prop
def tDI (g : G) (W : WX) (c : Nat) (f : ID) : TI := fun σ H R => ∃ T F env, T + c ≤ T + c ∧ Ok g T F env σ H ∧ f env (fun items => ∀ F' H' J, Grow g.st F H F' H' → Ok g (T + c) F' env σ H' → Wk g J items F' → R J H') (exE g T c F env σ H W)
structure DI (X : Cx) (g : G) (W : WX) (c : Nat) (tg e : Expr) (f : ID) : Prop where
  pi : PI X tg e (tDI g W c f)
  mono : MonoE f
theorem PIimp {X : Cx} {tg e : Expr} {t t' : TI} (h : PI X tg e t) (i : ∀ σ H Q, t' σ H Q → t σ H Q) : PI X tg e t' := ⟨fun pins s σ H Q I q => h.run pins s σ H Q I (i σ H Q q)⟩
section
variable {X : Cx} {g : G} {W : WX} {T ca cb cc : Nat} {F H Hs Fs : Hp} {env : En} {σ : St} {x y r : RV} {v w : V} {xs ys : List D} {tg : Expr} {fa : ED}
theorem wk_seq {a : Addr} {vs : List V} {items : List D} (hl : RepL g.K Fs items vs) {J : It} (gs : (∀ (i : Nat) F H x, Ex Fs F → Ex F H → vs[i]? = some x → J.go i H)) (ss : ∀ (i : Nat) F H, Ex Fs F → Ex F H → vs.length ≤ i → J.stop i H)
    (ys : ∀ (i : Nat) F H x H', Ex Fs F → Ex F H → J.yld i H x H' → H' = H ∧ vs[i]? = some x) : Wk g J items Fs := by
  refine ⟨fun {i F H} e1 e2 h => ?_, fun {i F H} e1 e2 h => ss i F H e1 e2 (by rw [← hl.length]; exact h), fun {i T F H env σ x H'} hlt e1 ok h => ?_⟩
  · have h2 : i < vs.length := by rw [← hl.length]; exact h
    exact gs i F H _ e1 e2 (List.getElem?_eq_getElem h2)
  · obtain ⟨rfl, h2⟩ := ys i F H x H' e1 ok.fh h
    obtain ⟨d, h3, h4⟩ := hl.back h2
    exact ⟨d, F, h3, ok.refl, ok, h4.mono e1⟩
theorem wk_list {a : Addr} {vs : List V} {items : List D} (h : Fs a = some (.lst vs)) (hl : RepL g.K Fs items vs) : Wk g (Itl g.K a) items Fs := by
  have sq : ∀ {F H : Hp}, Ex Fs F → Ex F H → SqL g.K H a vs := fun e1 e2 => .inl (.inl (e2 _ _ (e1 _ _ h)))
  refine wk_seq (a := a) hl (fun i F H x e1 e2 hx => ⟨vs, x, sq e1 e2, hx⟩) (fun i F H e1 e2 hx => ⟨vs, sq e1 e2, hx⟩) (fun i F H x H' e1 e2 hy => ⟨hy.1, hy.2 _ (sq e1 e2)⟩)
theorem wk_tup {a : Addr} {vs : List V} {items : List D} (h : SqT g.K Fs a vs) (hl : RepL g.K Fs items vs) : Wk g (Itt g.K a) items Fs := by
  have sq : ∀ {F H : Hp}, Ex Fs F → Ex F H → SqT g.K H a vs := fun e1 e2 => Evl.ex_t e2 (Evl.ex_t e1 h)
  refine wk_seq (a := a) hl (fun i F H x e1 e2 hx => ⟨vs, x, sq e1 e2, hx⟩) (fun i F H e1 e2 hx => ⟨vs, sq e1 e2, hx⟩) (fun i F H x H' e1 e2 hy => ⟨hy.1, hy.2 _ (sq e1 e2)⟩)
def signsD (s : Str) : List D := s.cps.toList.map fun c => D.str ⟨#[c]⟩
theorem wk_str {s : Str} : Wk g (Its s) (signsD s) Fs := by
  refine ⟨fun {i F H} e1 e2 h => ?_, fun {i F H} e1 e2 h => ?_, fun {i T F H env σ x H'} hlt e1 ok h => ?_⟩
  · have : i < s.cps.size := by simpa [signsD] using h
    exact this
  · have : s.cps.size ≤ i := by simpa [signsD] using h
    exact this
  · obtain ⟨rfl, c, h1, rfl⟩ := h
    refine ⟨.str ⟨#[c]⟩, F, ?_, ok.refl, ok, by simp only [Rep]⟩
    simp only [signsD, List.getElem?_map, Array.getElem?_toList, h1, Option.map_some]
def rangeD (lo : Int) (n : Nat) : List D := (List.range n).map fun i => D.int (lo + (i : Nat))
theorem wk_range {lo : Int} {n : Nat} : Wk g (Itr lo n) (rangeD lo n) Fs := by
  refine ⟨fun {i F H} e1 e2 h => ?_, fun {i F H} e1 e2 h => ?_, fun {i T F H env σ x H'} hlt e1 ok h => ?_⟩
  · have : i < n := by simpa [rangeD] using h
    exact this
  · have : n ≤ i := by simpa [rangeD] using h
    exact this
  · obtain ⟨rfl, rfl⟩ := h
    have hl : i < n := by simpa [rangeD] using hlt
    refine ⟨.int (lo + i), F, ?_, ok.refl, ok, by simp only [Rep]⟩
    simp only [rangeD, List.getElem?_map, List.getElem?_range hl, Option.map_some]
/-- a list, a tuple or a text, walked -/
def iAny (K : PySem.W.Frag) (te : TE) : TI := fun σ H R => te σ H fun v H1 => (∃ a, v = .ref a ∧ (∃ xs, SqL K H1 a xs) ∧ R (Itl K a) H1) ∨ (∃ a, v = .ref a ∧ (∃ xs, SqT K H1 a xs) ∧ R (Itt K a) H1) ∨ ∃ x, v = .str x ∧ R (Its x) H1
open PyProof.Rows in
theorem pi_any {e : Expr} {te : TE} (he : PE X e te) : PI X tg e (iAny X.K te) := by
  refine ⟨fun pins s σ H R I h => ?_⟩
  refine thn (he.run pins s σ H _ I h) fun v s1 ⟨x, H1, I1, r1, q1⟩ => ?_
  rcases q1 with ⟨a, e, ⟨xs, hq⟩, q⟩ | ⟨a, e, ⟨xs, hq⟩, q⟩ | ⟨z, ex, q⟩
  · subst e
    cases r1
    obtain ⟨its, rv, p, hz⟩ := I1.list hq
    refine wpAny_pyIter_list p.isList ?_
    refine ⟨s1.heap.objs.size, [s1.heap.objs.size], _, _, H1, rfl, I1.kept (t' := s1.toks) fun b o e => Heap.get?_push_of_some _ e, turn_list a _, ⟨_, Heap.get?_push_size _ rfl, rfl, rfl⟩, fun b hb => ?_, q⟩
    have e : b = s1.heap.objs.size := by simpa using hb
    subst e
    exact I1.fpOk (Nat.le_refl _) (I1.hok.fresh (Nat.le_refl _))
  · subst e
    cases r1
    obtain ⟨its, rv, p, hz⟩ := I1.tuple hq
    refine wpAny_pyIter_tuple (show s1.heap.IsTuple a its.toArray from p) ?_
    refine ⟨s1.heap.objs.size, [s1.heap.objs.size], _, _, H1, rfl, I1.kept (t' := s1.toks) fun b o e => Heap.get?_push_of_some _ e, turn_tuple a _, ⟨_, Heap.get?_push_size _ rfl, rfl, rfl⟩, fun b hb => ?_, q⟩
    have e : b = s1.heap.objs.size := by simpa using hb
    subst e
    exact I1.fpOk (Nat.le_refl _) (I1.hok.fresh (Nat.le_refl _))
  · subst ex
    obtain ⟨t, rfl⟩ := r1
    cases ha : z.cps.all (· < 128)
    · exact wpAny_pyIter_wide ha (pi_one (tk := s1.toks) I1 _ (turn_str _ z t "str_iterator" (.inr rfl)) ⟨_, Heap.get?_push_size _ rfl, rfl, rfl⟩ q)
    · exact wpAny_pyIter_ascii ha (pi_one (tk := s1.toks) I1 _ (turn_str _ z t "str_ascii_iterator" (.inl rfl)) ⟨_, Heap.get?_push_size _ rfl, rfl, rfl⟩ q)
/-- what is walked: a frozen list, a tuple, a text -/
def itemsQ (x : RV) (Q : List D → Prop) : Prop := match x with
  | .val (.lst xs) => Q xs
  | .val (.tup xs) => Q xs
  | .val (.str s) => Q (signsD s)
  | _ => False
def iAnyD (fa : ED) : ID := fun env Q E => frz fa env (fun x => itemsQ x Q) E
theorem mono_itemsQ {x : RV} {Q Q' : List D → Prop} (hq : ∀ b, Q b → Q' b) (q : itemsQ x Q) : itemsQ x Q' := by
  unfold itemsQ at q ⊢
  split
  · exact hq _ q
  · exact hq _ q
  · exact hq _ q
  · split at q
    · simp_all
    · simp_all
    · simp_all
    · exact q
theorem di_any (cy : Cy X g W) {e : Expr} (ha : DE X g W ca e fa) : DI X g W ca tg e (iAnyD fa) := by
  have hp := pi_any (tg := tg) ha.frz.pe
  rw [cy.k] at hp
  refine ⟨PIimp hp fun σ H R ⟨T, F, env, hT, ok, h⟩ => ?_, fun env Q Q' E E' hq he h => ha.frz.mono env _ _ _ _ (fun x q => mono_itemsQ hq q) he h⟩
  refine run_e ok (by omega) ha.frz.mono h (fun x q F1 H1 v w o rx => ?_) (exE.shift ok.refl (by omega))
  unfold itemsQ at q
  split at q
  · simp only [RepR, Rep] at rx
    obtain ⟨a, vs, rfl, h1, h2⟩ := rx
    exact .inl ⟨a, rfl, ⟨vs, .inl (.inl (o.fh _ _ h1))⟩, q F1 H1 _ w o (wk_list h1 h2)⟩
  · simp only [RepR, Rep] at rx
    obtain ⟨a, vs, rfl, h1, h2⟩ := rx
    exact .inr (.inl ⟨a, rfl, ⟨vs, Evl.ex_t o.fh h1⟩, q F1 H1 _ w o (wk_tup h1 h2)⟩)
  · simp only [RepR, Rep] at rx
    exact .inr (.inr ⟨_, rx, q F1 H1 _ w o wk_str⟩)
  · exact q.elim
/-- range -/
def iRange1 (fa : AD) : ID := fun env Q E => fa env (fun rs => ∃ n, rs = [.val (.int n)] ∧ n ≤ 100000 ∧ -100000 ≤ n ∧ Q (rangeD 0 n.toNat)) E
def iRange2 (fa : AD) : ID := fun env Q E => fa env (fun rs => ∃ i n, rs = [.val (.int i), .val (.int n)] ∧ i ≤ 100000 ∧ -100000 ≤ i ∧ n ≤ 100000 ∧ -100000 ≤ n ∧ Q (rangeD i (n - i).toNat)) E
theorem di_range1 {a : Expr} {fa : AD} {p pos : Pos} (hg : Gl X "range") (hm : X.mg "range" = none) (ha : DA X g W ca [a] fa) (hs : starEach [a] X.env = [(false, eval a X.env)] := by rfl) : DI X g W ca tg (.Call (.Name "range" p) [a] [] pos) (iRange1 fa) := by
  refine ⟨PIimp (pi_range1 hg hm ha.pa hs) fun σ H R ⟨T, F, env, hT, ok, h⟩ => ?_, fun env Q Q' E E' hq he h => ha.mono env _ _ _ _ (fun rs ⟨n, h1, h2, h3, q⟩ => ⟨n, h1, h2, h3, hq _ q⟩) he h⟩
  refine run_a ok (by omega) ha.mono h (fun rs ⟨n, h1, h2, h3, q⟩ F1 H1 vs w o rx => ?_) (exE.shift ok.refl (by omega))
  subst h1
  obtain ⟨v, rfl, r⟩ := rs1 (rs := []) rx
  simp only [RepR, Rep] at r
  subst r
  exact ⟨n, rfl, by omega, by omega, q F1 H1 _ w o wk_range⟩
theorem di_range2 {a b : Expr} {fa : AD} {p pos : Pos} (hg : Gl X "range") (hm : X.mg "range" = none) (ha : DA X g W ca [a, b] fa) (hs : starEach [a, b] X.env = [(false, eval a X.env), (false, eval b X.env)] := by rfl) (hs2 : starEach [b] X.env = [(false, eval b X.env)] := by rfl) : DI X g W ca tg (.Call (.Name "range" p) [a, b] [] pos) (iRange2 fa) := by
  refine ⟨PIimp (pi_range2 hg hm ha.pa hs hs2) fun σ H R ⟨T, F, env, hT, ok, h⟩ => ?_, fun env Q Q' E E' hq he h => ha.mono env _ _ _ _ (fun rs ⟨i, n, h1, h2, h3, h4, h5, q⟩ => ⟨i, n, h1, h2, h3, h4, h5, hq _ q⟩) he h⟩
  refine run_a ok (by omega) ha.mono h (fun rs ⟨i, n, h1, h2, h3, h4, h5, q⟩ F1 H1 vs w o rx => ?_) (exE.shift ok.refl (by omega))
  subst h1
  obtain ⟨v, u, rfl, r, r2⟩ := rs2 rx
  simp only [RepR, Rep] at r r2
  subst r; subst r2
  exact ⟨i, n, rfl, ⟨by omega, by omega, by omega, by omega⟩, q F1 H1 _ w o wk_range⟩

/-! ### targets -/
abbrev BD := D → En → (En → Prop) → Prop
/-- only these slots are stored -/
def Kept (sl : List Nat) (σ σ' : St) : Prop := ∀ vs : List Nat, (∀ i ∈ sl, i ∈ vs) → wipe σ' vs = wipe σ vs
theorem Kept.refl {sl : List Nat} {σ : St} : Kept sl σ σ := fun _ _ => rfl
theorem Kept.trans {s1 s2 : List Nat} {σ σ1 σ2 : St} (a : Kept s1 σ σ1) (b : Kept s2 σ1 σ2) : Kept (s1 ++ s2) σ σ2 := fun vs h => (b vs fun i hi => h i (List.mem_append_right _ hi)).trans (a vs fun i hi => h i (List.mem_append_left _ hi))
theorem wipe_get (σ : St) : ∀ (vs : List Nat) (i : Nat), (wipe σ vs)[i]? = if i ∈ vs ∧ i < σ.length then some none else σ[i]?
  | [], i => by simp [wipe]
  | v :: vs, i => by
    unfold wipe
    by_cases e : v = i
    · subst e
      rw [List.getElem?_set]
      simp only [if_true, wipe_length]
      by_cases h : v < σ.length
      · rw [if_pos h, if_pos ⟨List.mem_cons_self, h⟩]
      · rw [if_neg h, if_neg (fun z => h z.2)]
        rw [List.getElem?_eq_none (by omega)]
    · rw [List.getElem?_set_ne e, wipe_get σ vs i]
      by_cases h : i ∈ vs ∧ i < σ.length
      · rw [if_pos h, if_pos ⟨List.mem_cons_of_mem _ h.1, h.2⟩]
      · rw [if_neg h, if_neg]
        rintro ⟨h1, h2⟩
        rcases List.mem_cons.mp h1 with h1 | h1
        · exact e h1.symm
        · exact h ⟨h1, h2⟩
theorem kept_set (σ : St) (i : Nat) (o : Option V) : Kept [i] σ (σ.set i o) := fun vs h => by
  apply List.ext_getElem?
  intro k
  rw [wipe_get, wipe_get, List.length_set]
  by_cases e : i = k
  · subst e
    have hm := h i (by simp)
    by_cases hl : i < σ.length
    · rw [if_pos ⟨hm, hl⟩, if_pos ⟨hm, hl⟩]
    · rw [if_neg (fun z => hl z.2), if_neg (fun z => hl z.2), List.getElem?_eq_none (by rw [List.length_set]; omega), List.getElem?_eq_none (by omega)]
  · rw [List.getElem?_set_ne e]
structure DG (X : Cx) (g : G) (tg : Expr) (b : BD) (sl : List Nat) (t : TG) : Prop where
  pg : PG X tg t
  snd : ∀ {T : Nat} {F : Hp} {env : En} {σ : St} {H : Hp} {d : D} {v : V} {P : En → Prop} {Q : St → Hp → Prop}, Ok g T F env σ H → Rep g.K F d v → b d env P → (∀ env' σ', Ok g T F env' σ' H → Kept sl σ σ' → P env' → Q σ' H) → t v σ H Q
  mono : ∀ d env P P', (∀ e, P e → P' e) → b d env P → b d env P'
theorem Ok.set {d : D} (ok : Ok g T F env σ H) (j : Nat) (r : Rep g.K F d v) : Ok g T F (env.set j (some (.val d))) (σ.set j (some v)) H := by
  refine ⟨ok.grow, ok.sto, by rw [List.length_set, List.length_set]; exact ok.len, fun i d' e => ?_, fun i e => ?_, fun i ys e => ?_, fun i k ys zs hne e e' => ?_⟩
  · by_cases h : j = i
    · subst h
      rw [List.getElem?_set] at e ⊢
      simp only [if_true] at e ⊢
      have hl := ok.len
      split at e
      · simp only [Option.some.injEq, SV.val.injEq] at e
        subst e
        rename_i hlt
        rw [if_pos (by omega)]
        exact ⟨v, rfl, r⟩
      · cases e
    · rw [List.getElem?_set_ne h] at e ⊢
      exact ok.val i d' e
  · by_cases h : j = i
    · subst h
      rw [List.getElem?_set] at e
      simp only [if_true] at e
      split at e <;> simp at e
    · rw [List.getElem?_set_ne h] at e ⊢
      exact ok.stor i e
  · by_cases h : j = i
    · subst h
      rw [List.getElem?_set] at e
      simp only [if_true] at e
      split at e <;> simp at e
    · rw [List.getElem?_set_ne h] at e ⊢
      exact ok.own i ys e
  · have h1 : j ≠ i := fun z => by
      subst z
      rw [List.getElem?_set] at e
      simp only [if_true] at e
      split at e <;> simp at e
    have h2 : j ≠ k := fun z => by
      subst z
      rw [List.getElem?_set] at e'
      simp only [if_true] at e'
      split at e' <;> simp at e'
    rw [List.getElem?_set_ne h1] at e
    rw [List.getElem?_set_ne h2] at e'
    rw [List.getElem?_set_ne h1, List.getElem?_set_ne h2]
    exact ok.dis i k ys zs hne e e'
def bName (j : Nat) : BD := fun d env P => P (env.set j (some (.val d)))
theorem dg_name (i : Nat) {x : Str} {pos : Pos} (hN : X.N.Nodup) (hi : X.N[i]? = some x := by rfl) (hx : Loc X.env.scope x := by first | exact Or.inl rfl | exact Or.inr rfl) (hf : X.fn x = true ∨ X.env.scope.names.lookup x = some .local := by first | exact .inl rfl | exact .inr rfl | assumption) :
    DG X g (.Name x pos) (bName i) [i] (gName i) := ⟨pg_name hN hi hx hf, fun ok r b k => k _ _ (ok.set i r) (kept_set _ _ _) b, fun d env P P' h b => h _ b⟩
structure DGs (X : Cx) (g : G) (tg : List Expr) (b : List D → En → (En → Prop) → Prop) (sl : List Nat) (t : TGs) : Prop where
  pg : PGs X tg t
  snd : ∀ {T : Nat} {F : Hp} {env : En} {σ : St} {H : Hp} {d : List D} {v : List V} {P : En → Prop} {Q : St → Hp → Prop}, Ok g T F env σ H → RepL g.K F d v → b d env P → (∀ env' σ', Ok g T F env' σ' H → Kept sl σ σ' → P env' → Q σ' H) → t v σ H Q
  mono : ∀ d env P P', (∀ e, P e → P' e) → b d env P → b d env P'
def bNil : List D → En → (En → Prop) → Prop := fun ds env P => ds = [] ∧ P env
def bCons (b : BD) (bs : List D → En → (En → Prop) → Prop) : List D → En → (En → Prop) → Prop := fun ds env P => match ds with
  | [] => False
  | d :: ds => b d env (fun env' => bs ds env' P)
theorem dgs_nil : DGs X g [] bNil [] gNil := ⟨pgs_nil, fun ok r b k => by
  obtain ⟨rfl, b⟩ := b
  exact ⟨repL_nil.mp r, k _ _ ok Kept.refl b⟩, fun d env P P' h b => ⟨b.1, h _ b.2⟩⟩
theorem dgs_cons {e : Expr} {es : List Expr} {b : BD} {bs : List D → En → (En → Prop) → Prop} {s1 s2 : List Nat} {t : TG} {u : TGs} (h : DG X g e b s1 t) (hs : DGs X g es bs s2 u) (ha : (assignEach (e :: es) X.env).map (·.2) = assign e X.env :: (assignEach es X.env).map (·.2) := by rfl) : DGs X g (e :: es) (bCons b bs) (s1 ++ s2) (gCons t u) := by
  refine ⟨pgs_cons h.pg hs.pg ha, fun {T F env σ H d v P Q} ok r q k => ?_, fun d env P P' hp q => ?_⟩
  · cases d with
    | nil => exact q.elim
    | cons d ds =>
      obtain ⟨v, r', rfl, r1, r2⟩ := repL_cons.mp r
      exact ⟨v, r', rfl, h.snd ok r1 q fun env' σ' ok' k1 q' => hs.snd ok' r2 q' fun env2 σ2 ok2 k2 q2 => k env2 σ2 ok2 (k1.trans k2) q2⟩
  · cases d with
    | nil => exact q.elim
    | cons d ds => exact h.mono _ _ _ _ (fun e q => hs.mono _ _ _ _ hp q) q
def bTup (n : Nat) (bs : List D → En → (En → Prop) → Prop) : BD := fun d env P => match d with
  | .tup ds => ds.length = n ∧ bs ds env P
  | _ => False
theorem dg_tup (cy : Cy X g W) {es : List Expr} {k n : Nat} {pos : Pos} {bs : List D → En → (En → Prop) → Prop} {sl : List Nat} {t : TGs} (h : DGs X g es bs sl t) (hn : (assignEach es X.env).length = n := by rfl) (hst : (assignEach es X.env).findIdx? (·.1) = none := by rfl) : DG X g (.Tuple es k pos) (bTup n bs) sl (gTup g.K n t) := by
  have hp := pg_tup (pos := pos) (k := k) cy.calm h.pg hn hst
  rw [cy.k] at hp
  refine ⟨hp, fun {T F env σ H d v P Q} ok r q k => ?_, fun d env P P' hp q => ?_⟩
  · unfold bTup at q
    split at q
    · rename_i ds
      simp only [Rep] at r
      obtain ⟨a, vs, rfl, r1, r2⟩ := r
      exact ⟨a, vs, rfl, Evl.ex_t ok.fh r1, by rw [← r2.length]; exact q.1, h.snd ok r2 q.2 k⟩
    · exact q.elim
  · unfold bTup at q ⊢
    split
    · exact ⟨q.1, h.mono _ _ _ _ hp q.2⟩
    · split at q
      · simp_all
      · exact q
end
end DL

namespace DL
open PySem PySem.Spec L2
/-! ### statements -/
structure DEn where
  nx : En → Prop
  rt : RV → Prop
  bk : En → Prop
  ct : En → Prop
  ex : En → Exc → Prop
/-- one wish is under the other -/
structure DEn.le (A B : DEn) : Prop where
  nx : ∀ e, A.nx e → B.nx e
  rt : ∀ e, A.rt e → B.rt e
  bk : ∀ e, A.bk e → B.bk e
  ct : ∀ e, A.ct e → B.ct e
  ex : ∀ e x, A.ex e x → B.ex e x
theorem DEn.le.refl (A : DEn) : A.le A := ⟨fun _ h => h, fun _ h => h, fun _ h => h, fun _ h => h, fun _ _ h => h⟩
abbrev SD := DEn → En → Prop
def MonoS (f : SD) : Prop := ∀ A B env, A.le B → f A env → f B env
/-- what a def hands back -/
def RetR (K : PySem.W.Frag) (st : Addr) (Hs F H : Hp) : RV → V → Prop
  | .val d, v => Rep K F d v
  | .own xs, v => ∃ a, v = .ref a ∧ a ≠ st ∧ Hs a = none ∧ F a = none ∧ ∃ vs, H a = some (.lst vs) ∧ RepL K F xs vs
  | .sto, v => v = .ref st
  | .bor _, _ => False
def okN (g : G) (T : Nat) (F : Hp) (P : St → Hp → Prop) : En → Prop := fun env' => ∀ F' σ' H', Ex F F' → Ok g T F' env' σ' H' → P σ' H'
def okR (g : G) (T : Nat) (P : VK) : RV → Prop := fun r => ∀ F' H' v, Grow g.st g.F0 g.H0 F' H' → StoreAt g.K g.st T F' H' → RetR g.K g.st g.H0 F' H' r v → P v H'
def exS (g : G) (T : Nat) (F : Hp) (W : WX) : En → Exc → Prop := fun env' x => ∀ F' σ' H' d, Ex F F' → Ok g T F' env' σ' H' → RepX g.K F' x d → W (.ref x.C) d σ' H'
def enS (g : G) (W : WX) (T : Nat) (F : Hp) (D : Ends) : DEn := ⟨okN g T F D.nx, okR g T D.rt, okN g T F D.bk, okN g T F D.ct, exS g T F W⟩
def tDS (g : G) (W : WX) (c : Nat) (f : SD) : TS := fun D σ H => ∃ T F env, T + c ≤ T + c ∧ Ok g T F env σ H ∧ f (enS g W (T + c) F D) env
structure DS (X : Cx) (g : G) (W : WX) (c : Nat) (st : Stmt) (f : SD) : Prop where
  ps : PS X st (tDS g W c f)
  mono : MonoS f
structure DSs (X : Cx) (g : G) (W : WX) (c : Nat) (st : List Stmt) (f : SD) : Prop where
  ps : PSs X st (tDS g W c f)
  mono : MonoS f
theorem PSimp {X : Cx} {e : Stmt} {t t' : TS} (h : PS X e t) (i : ∀ D σ H, t' D σ H → t D σ H) : PS X e t' := ⟨fun pins s σ H D I q => h.run pins s σ H D I (i D σ H q)⟩
theorem PSsimp {X : Cx} {e : List Stmt} {t t' : TS} (h : PSs X e t) (i : ∀ D σ H, t' D σ H → t D σ H) : PSs X e t' := ⟨fun pins s σ H D I q => h.run pins s σ H D I (i D σ H q)⟩
section
variable {X : Cx} {g : G} {W : WX} {T T' ca cb cc : Nat} {F H F1 H1 Hs Fs : Hp} {env : En} {σ : St} {x y r : RV} {v w : V} {xs ys : List D} {fa : ED} {ta : TD} {sa sb : SD}
theorem okN.up {P : St → Hp → Prop} (e : Ex F F1) (l : T' ≤ T) {env : En} (h : okN g T F P env) : okN g T' F1 P env := fun F' σ' H' e' o => h F' σ' H' (e.trans e') (o.up l)
theorem okR.up {P : VK} (l : T' ≤ T) {r : RV} (h : okR g T P r) : okR g T' P r := fun F' H' v w s => h F' H' v w (s.up l)
theorem exS.up (e : Ex F F1) (l : T' ≤ T) {env : En} {x : Exc} (h : exS g T F W env x) : exS g T' F1 W env x := fun F' σ' H' d e' o => h F' σ' H' d (e.trans e') (o.up l)
theorem enS.up {D : Ends} (e : Ex F F1) (l : T' ≤ T) : (enS g W T F D).le (enS g W T' F1 D) := ⟨fun _ h => okN.up e l h, fun _ h => okR.up l h, fun _ h => okN.up e l h, fun _ h => okN.up e l h, fun _ _ h => exS.up e l h⟩
/-- an expression's exception is the statement's -/
theorem exE.of (ok : Ok g T F env σ H) (l : T' + ca ≤ T + cc) (hT : T' = T) : ∀ x, exS g (T + cc) F W env x → exE g T' ca F env σ H W x := fun x h F' H' d w o r => h F' σ H' d w.ff (o.up (by omega)) r

def sNil : SD := fun D env => D.nx env
def sSeq (a b : SD) : SD := fun D env => a { D with nx := b D } env
theorem mono_seq (ha : MonoS sa) (hb : MonoS sb) : MonoS (sSeq sa sb) := fun A B env l h => ha { A with nx := sb A } { B with nx := sb B } env ⟨fun e q => hb A B e l q, l.rt, l.bk, l.ct, l.ex⟩ h
theorem dss_nil : DSs X g W 0 [] sNil := ⟨PSsimp pss_nil fun D σ H ⟨T, F, env, hT, ok, h⟩ => h F σ H (Evl.Ex.refl F) ok, fun A B env l h => l.nx _ h⟩
theorem dss_one {s : Stmt} (h : DS X g W ca s sa) : DSs X g W ca [s] sa := ⟨pss_one h.ps, h.mono⟩
theorem dss_cons {s : Stmt} {ss : List Stmt} (ha : DS X g W ca s sa) (hb : DSs X g W cb ss sb) : DSs X g W (ca + cb) (s :: ss) (sSeq sa sb) := by
  refine ⟨PSsimp (pss_cons ha.ps hb.ps) fun D σ H ⟨T, F, env, hT, ok, h⟩ => ?_, mono_seq ha.mono hb.mono⟩
  refine ⟨T, F, env, by omega, ok, ha.mono _ _ _ ⟨fun e q F' σ' H' e' o => ?_, fun r q => okR.up (by omega) q, fun e q => okN.up (Evl.Ex.refl F) (by omega) q, fun e q => okN.up (Evl.Ex.refl F) (by omega) q, fun e x q => exS.up (Evl.Ex.refl F) (by omega) q⟩ h⟩
  exact ⟨T + ca, F', e, by omega, o, hb.mono _ _ _ (enS.up e' (by omega)) q⟩
theorem ds_pass {pos : Pos} : DS X g W 0 (.Pass pos) sNil := ⟨PSimp ps_pass fun D σ H ⟨T, F, env, hT, ok, h⟩ => h F σ H (Evl.Ex.refl F) ok, fun A B env l h => l.nx _ h⟩
theorem ds_break {pos : Pos} : DS X g W 0 (.Break pos) (fun D env => D.bk env) := ⟨PSimp ps_break fun D σ H ⟨T, F, env, hT, ok, h⟩ => h F σ H (Evl.Ex.refl F) ok, fun A B env l h => l.bk _ h⟩
theorem ds_continue {pos : Pos} : DS X g W 0 (.Continue pos) (fun D env => D.ct env) := ⟨PSimp ps_continue fun D σ H ⟨T, F, env, hT, ok, h⟩ => h F σ H (Evl.Ex.refl F) ok, fun A B env l h => l.ct _ h⟩
/-- x = e -/
def toSV : RV → Option SV
  | .val d => some (.val d)
  | .own xs => some (.own xs)
  | .sto => some .sto
  | .bor _ => none
def sAsg (i : Nat) (fa : ED) : SD := fun D env => fa env (fun r => ∃ s, toSV r = some s ∧ D.nx (env.set i (some s))) (D.ex env)
theorem mono_asg {i : Nat} (ha : MonoE fa) : MonoS (sAsg i fa) := fun A B env l h => ha env _ _ _ _ (fun r ⟨s, h1, q⟩ => ⟨s, h1, l.nx _ q⟩) (fun x q => l.ex _ _ q) h
theorem set_none {α : Type} {l : List (Option α)} {j i : Nat} {s t : α} (h : (l.set j (some s))[i]? = some (some t)) : (j = i ∧ j < l.length ∧ s = t) ∨ (j ≠ i ∧ l[i]? = some (some t)) := by
  by_cases e : j = i
  · subst e
    rw [List.getElem?_set] at h
    simp only [if_true] at h
    split at h
    · simp only [Option.some.injEq] at h
      exact .inl ⟨rfl, by assumption, h⟩
    · cases h
  · rw [List.getElem?_set_ne e] at h
    exact .inr ⟨e, h⟩
theorem Ok.setR {s : SV} (ok : Ok g T F env σ H) (j : Nat) (h : toSV r = some s) (rr : RepR g Hs F H env σ r v) (w0 : ∀ a, Hs a = none → g.H0 a = none ∨ a = g.st) : Ok g T F (env.set j (some s)) (σ.set j (some v)) H := by
  cases r with
  | val d => simp only [toSV, Option.some.injEq] at h; subst h; exact ok.set j rr
  | bor ys => simp [toSV] at h
  | sto =>
    simp only [toSV, Option.some.injEq] at h
    subst h
    have hl := ok.len
    refine ⟨ok.grow, ok.sto, by rw [List.length_set, List.length_set]; exact ok.len, fun i d' e => ?_, fun i e => ?_, fun i ys e => ?_, fun i k ys zs hne e e' => ?_⟩
    · rcases set_none e with ⟨_, _, z⟩ | ⟨n, e⟩
      · cases z
      · rw [List.getElem?_set_ne n]; exact ok.val i d' e
    · rcases set_none e with ⟨rfl, hlt, _⟩ | ⟨n, e⟩
      · rw [List.getElem?_set_self (by omega)]
        exact congrArg (fun z => some (some z)) rr
      · rw [List.getElem?_set_ne n]; exact ok.stor i e
    · rcases set_none e with ⟨_, _, z⟩ | ⟨n, e⟩
      · cases z
      · rw [List.getElem?_set_ne n]; exact ok.own i ys e
    · rcases set_none e with ⟨_, _, z⟩ | ⟨n, e⟩
      · cases z
      · rcases set_none e' with ⟨_, _, z⟩ | ⟨n', e'⟩
        · cases z
        · rw [List.getElem?_set_ne n, List.getElem?_set_ne n']; exact ok.dis i k ys zs hne e e'
  | own ys =>
    simp only [toSV, Option.some.injEq] at h
    subst h
    have hl := ok.len
    obtain ⟨a, rfl, o, no⟩ := rr
    have o0 : OwnAt g g.H0 F H a ys := ⟨o.ns, (w0 a o.new).resolve_right o.ns, o.nf, o.at'⟩
    refine ⟨ok.grow, ok.sto, by rw [List.length_set, List.length_set]; exact ok.len, fun i d' e => ?_, fun i e => ?_, fun i zs e => ?_, fun i k zs us hne e e' => ?_⟩
    · rcases set_none e with ⟨_, _, z⟩ | ⟨n, e⟩
      · cases z
      · rw [List.getElem?_set_ne n]; exact ok.val i d' e
    · rcases set_none e with ⟨_, _, z⟩ | ⟨n, e⟩
      · cases z
      · rw [List.getElem?_set_ne n]; exact ok.stor i e
    · rcases set_none e with ⟨rfl, hlt, z⟩ | ⟨n, e⟩
      · cases z
        rw [List.getElem?_set_self (by omega)]
        exact ⟨a, rfl, o0⟩
      · rw [List.getElem?_set_ne n]; exact ok.own i zs e
    · rcases set_none e with ⟨rfl, hlt, z⟩ | ⟨n, e⟩
      · rcases set_none e' with ⟨z', _, _⟩ | ⟨n', e'⟩
        · exact absurd z' hne
        · rw [List.getElem?_set_self (by omega), List.getElem?_set_ne n']
          exact fun z => no k us e' z.symm
      · rcases set_none e' with ⟨rfl, hlt, z⟩ | ⟨n', e'⟩
        · rw [List.getElem?_set_self (by omega), List.getElem?_set_ne n]
          exact no i zs e
        · rw [List.getElem?_set_ne n, List.getElem?_set_ne n']; exact ok.dis i k zs us hne e e'
/-- what is new later was new at the entry -/
theorem Ok.newOf (ok : Ok g T F env σ H) : ∀ a, H a = none → g.H0 a = none ∨ a = g.st := fun a h => by
  by_cases e : a = g.st
  · exact .inr e
  · left
    cases q : g.H0 a with
    | none => rfl
    | some x =>
      have z := ok.grow.hh a x e q
      rw [h] at z
      cases z
theorem ds_asg (i : Nat) {x : Str} {e : Expr} {pos pos' : Pos} (ha : DE X g W ca e fa) (hN : X.N.Nodup) (hi : X.N[i]? = some x := by rfl) (hx : Loc X.env.scope x := by first | exact Or.inl rfl | exact Or.inr rfl) (hs : swapsWith e (some (.Name x pos')) pos.line X.env = pure false := by rfl)
    (hf : X.fn x = true ∨ X.env.scope.names.lookup x = some .local := by first | exact .inl rfl | exact .inr rfl | assumption) : DS X g W ca (.Assign [.Name x pos'] e pos) (sAsg i fa) := by
  refine ⟨PSimp (ps_set hN hi hx ha.pe hs hf) fun D σ H ⟨T, F, env, hT, ok, h⟩ => ?_, mono_asg ha.mono⟩
  exact run_e ok hT ha.mono h (fun r ⟨s, h1, q⟩ F1 H1 v w o rr => q F1 _ H1 w.ff (o.setR i h1 rr ok.newOf)) (exE.of ok (Nat.le_refl _) rfl)
/-- a, b = e -/
def sAsgG (b : BD) (fa : ED) : SD := fun D env => frz fa env (fun r => match r with | .val d => b d env D.nx | _ => False) (D.ex env)
theorem ds_asgG {tg e : Expr} {pos : Pos} {b : BD} {sl : List Nat} {t : TG} (ha : DE X g W ca e fa) (hg : DG X g tg b sl t) (hs : swapsWithSole [tg] e pos.line X.env = pure false := by rfl) (hw : swappedStores [tg] e X.env = pure none := by rfl) (hh : (assignEach [tg] X.env).map (·.2) = [assign tg X.env] := by rfl) : DS X g W ca (.Assign [tg] e pos) (sAsgG b fa) := by
  refine ⟨PSimp (ps_asg ha.frz.pe hg.pg hs hw hh) fun D σ H ⟨T, F, env, hT, ok, h⟩ => ?_, fun A B env l h => ha.frz.mono env _ _ _ _ (fun r q => ?_) (fun x q => l.ex _ _ q) h⟩
  · refine run_e ok hT ha.frz.mono h (fun r q F1 H1 v w o rr => ?_) (exE.of ok (Nat.le_refl _) rfl)
    split at q
    · exact hg.snd o rr q fun env' σ' ok' _ q' => q' F1 σ' H1 w.ff ok'
    · exact q.elim
  · split at q
    · exact hg.mono _ _ _ _ l.nx q
    · exact q.elim
/-- an expression as a statement -/
def sExpr (fa : ED) : SD := fun D env => fa env (fun _ => D.nx env) (D.ex env)
theorem ds_expr {e : Expr} {pos : Pos} (ha : DE X g W ca e fa) (hs : swapsWith e none pos.line X.env = pure false := by rfl) : DS X g W ca (.Expr e pos) (sExpr fa) := by
  refine ⟨PSimp (ps_expr ha.pe hs) fun D σ H ⟨T, F, env, hT, ok, h⟩ => ?_, fun A B env l h => ha.mono env _ _ _ _ (fun r q => l.nx _ q) (fun x q => l.ex _ _ q) h⟩
  exact run_e ok hT ha.mono h (fun r q F1 H1 v w o rr => q F1 σ H1 w.ff o) (exE.of ok (Nat.le_refl _) rfl)
theorem ds_doc {x j pos pos'} : DS X g W 0 (.Expr (.Constant (.str x) j pos) pos') sNil := ⟨PSimp ps_doc fun D σ H ⟨T, F, env, hT, ok, h⟩ => h F σ H (Evl.Ex.refl F) ok, fun A B env l h => l.nx _ h⟩
/-- return e: a list of our own is handed over -/
def hand : RV → RV
  | .bor xs => .own xs
  | r => r
def sRet (fa : ED) : SD := fun D env => fa env (fun r => D.rt (hand r)) (D.ex env)
theorem ds_ret {e : Expr} {pos : Pos} (ha : DE X g W ca e fa) : DS X g W ca (.Return (some e) pos) (sRet fa) := by
  refine ⟨PSimp (ps_ret ha.pe) fun D σ H ⟨T, F, env, hT, ok, h⟩ => ?_, fun A B env l h => ha.mono env _ _ _ _ (fun r q => l.rt _ q) (fun x q => l.ex _ _ q) h⟩
  refine run_e ok hT ha.mono h (fun r q F1 H1 v w o rr => ?_) (exE.of ok (Nat.le_refl _) rfl)
  cases r with
  | val d => exact q F1 H1 v o.grow o.sto rr
  | sto => exact q F1 H1 v o.grow o.sto rr
  | own ys =>
    obtain ⟨a, rfl, o1, no⟩ := rr
    exact q F1 H1 _ o.grow o.sto ⟨a, rfl, o1.ns, ((ok.newOf a o1.new).resolve_right o1.ns), o1.nf, o1.at'⟩
  | bor ys =>
    obtain ⟨i, e1, e2⟩ := rr
    obtain ⟨a, e3, o1⟩ := o.own i ys e1
    rw [e2] at e3
    cases e3
    exact q F1 H1 _ o.grow o.sto ⟨a, rfl, o1.ns, o1.new, o1.nf, o1.at'⟩
end
end DL

namespace DL
open PySem PySem.Spec L2
section
variable {X : Cx} {g : G} {W : WX} {T T' ca cb cc : Nat} {F H F1 H1 Hs Fs : Hp} {env : En} {σ : St} {x y r : RV} {v w : V} {xs ys : List D} {fa : ED} {ta : TD} {sa sb : SD}
/-! ### if -/
def sIf (ta : TD) (sa sb : SD) : SD := fun D env => ta env (fun b => if b = true then sa D env else sb D env) (D.ex env)
theorem ds_if {c : Expr} {a b : List Stmt} {pos : Pos} (hc : DT X g W cc c ta) (ha : DSs X g W ca a sa) (hb : DSs X g W cb b sb) : DS X g W (cc + (ca + cb)) (.If c a b pos) (sIf ta sa sb) := by
  refine ⟨PSimp (ps_if hc.pt ha.ps hb.ps) fun D σ H ⟨T, F, env, hT, ok, h⟩ => ?_, fun A B env l h => hc.mono env _ _ _ _ (fun b q => ?_) (fun x q => l.ex _ _ q) h⟩
  · refine run_t ok (by omega) hc.mono h (fun b q F1 H1 w o => ?_) (exE.of ok (by omega) rfl)
    cases b with
    | true => exact ⟨T + cc, F1, env, by omega, o, ha.mono _ _ _ (enS.up w.ff (by omega)) q⟩
    | false => exact ⟨T + cc, F1, env, by omega, o, hb.mono _ _ _ (enS.up w.ff (by omega)) q⟩
  · cases b with
    | true => exact ha.mono _ _ _ l q
    | false => exact hb.mono _ _ _ l q
/-! ### for -/
abbrev NN : Nat := 1000
def forW (b : BD) (fb : SD) (A : DEn) : List D → En → Prop
  | [], env => A.nx env
  | d :: ds, env => b d env (fun env1 => fb { A with nx := forW b fb A ds, ct := forW b fb A ds, bk := A.nx } env1)
theorem forW_mono {b : BD} {fb : SD} {A B : DEn} (hb : ∀ d env P P', (∀ e, P e → P' e) → b d env P → b d env P') (hf : MonoS fb) (l : A.le B) : ∀ ds env, forW b fb A ds env → forW b fb B ds env
  | [], env, h => l.nx _ h
  | d :: ds, env, h => hb _ _ _ _ (fun e q => hf { A with nx := forW b fb A ds, ct := forW b fb A ds, bk := A.nx } { B with nx := forW b fb B ds, ct := forW b fb B ds, bk := B.nx } e ⟨fun e q => forW_mono hb hf l ds e q, l.rt, l.nx, fun e q => forW_mono hb hf l ds e q, l.ex⟩ q) h
def sFor (fi : ID) (b : BD) (fb : SD) : SD := fun D env => fi env (fun items => items.length ≤ NN ∧ forW b fb D items env) (D.ex env)
theorem ds_for (cy : Cy X g W) {tg iter : Expr} {body : List Stmt} {pos : Pos} {fi : ID} {b : BD} {sl : List Nat} {t : TG} {fb : SD} (hi : DI X g W ca tg iter fi) (hg : DG X g tg b sl t) (hb : DSs X g W cb body fb) (hs : ∀ (x : Value), foldedSetIterable iter X.env x = pure x := by intro _; rfl) :
    DS X g W (ca + NN * cb) (.For tg iter body [] pos) (sFor fi b fb) := by
  refine ⟨PSimp (ps_for cy.po cy.calm hi.pi hg.pg hb.ps hs) fun D σ H ⟨T, F, env, hT, ok, h⟩ => ?_, fun A B env l h => hi.mono env _ _ _ _ (fun is q => ⟨q.1, forW_mono hg.mono hb.mono l _ _ q.2⟩) (fun x q => l.ex _ _ q) h⟩
  refine ⟨T, F, env, by omega, ok, hi.mono env _ _ _ _ (fun items ⟨hl, q⟩ F1 H1 J w o wk => ?_) (exE.of ok (by omega) rfl) h⟩
  refine ⟨fun i m σ' H' => m = items.length - i ∧ i ≤ items.length ∧ ∃ F' env', Ex F1 F' ∧ Ok g (T + ca + i * cb) F' env' σ' H' ∧ forW b fb (enS g W (T + (ca + NN * cb)) F D) (items.drop i) env', ⟨items.length, rfl, Nat.zero_le _, F1, env, Evl.Ex.refl F1, o.up (by omega), by simpa using q⟩, ?_⟩
  rintro i m σ' H' ⟨rfl, hi', F', env', e1, o', q⟩
  by_cases hlt : i < items.length
  · refine .inr ⟨wk.go e1 o'.fh hlt, fun σ2 H2 => ∃ m', m' < items.length - i ∧ m' = items.length - (i + 1) ∧ (i + 1) ≤ items.length ∧ ∃ F' env', Ex F1 F' ∧ Ok g (T + ca + (i + 1) * cb) F' env' σ2 H2 ∧ forW b fb (enS g W (T + (ca + NN * cb)) F D) (items.drop (i + 1)) env', ?_, ?_⟩
    · rintro σ2 H2 ⟨m', hm, rfl, r1, r2⟩
      exact ⟨_, hm, rfl, r1, r2⟩
    · intro xv H2 hy
      obtain ⟨d, F2, hd, w2, o2, rd⟩ := wk.yld hlt e1 o' hy
      have ed : items.drop i = d :: items.drop (i + 1) := by
        rw [List.drop_eq_getElem_cons hlt]
        rw [List.getElem?_eq_getElem hlt] at hd
        cases hd
        rfl
      rw [ed] at q
      refine hg.snd o2 rd q fun env3 σ3 o3 _ q3 => ?_
      have hm : (i + 1) * cb ≤ NN * cb := Nat.mul_le_mul_right cb (by omega)
      have hm2 : (i + 1) * cb = i * cb + cb := Nat.succ_mul i cb
      refine ⟨T + ca + i * cb, F2, env3, by omega, o3, hb.mono _ _ _ ?_ q3⟩
      have eF : Ex F F2 := w.ff.trans (e1.trans w2.ff)
      have nxt : ∀ e, forW b fb (enS g W (T + (ca + NN * cb)) F D) (items.drop (i + 1)) e → okN g (T + ca + i * cb + cb) F2 (fun σ2 H2 => ∃ m', m' < items.length - i ∧ m' = items.length - (i + 1) ∧ (i + 1) ≤ items.length ∧ ∃ F' env', Ex F1 F' ∧ Ok g (T + ca + (i + 1) * cb) F' env' σ2 H2 ∧ forW b fb (enS g W (T + (ca + NN * cb)) F D) (items.drop (i + 1)) env') e := fun e q4 F4 σ4 H4 e4 o4 =>
        ⟨items.length - (i + 1), by omega, rfl, hlt, F4, e, e1.trans (w2.ff.trans e4), o4.up (by omega), q4⟩
      exact ⟨nxt, fun r q4 => okR.up (by omega) q4, fun e q4 => okN.up eF (by omega) q4, nxt, fun e x q4 => exS.up eF (by omega) q4⟩
  · have hle : items.length ≤ i := by omega
    refine .inl ⟨wk.stop e1 o'.fh hle, ?_⟩
    rw [List.drop_eq_nil_of_le hle] at q
    have ei : i = items.length := by omega
    have hm : i * cb ≤ NN * cb := Nat.mul_le_mul_right cb (by omega)
    exact q F' σ' H' (w.ff.trans e1) (o'.up (by omega))
/-! ### comprehensions -/
theorem Ok.wipe (ok : Ok g T F env σ H) : ∀ vs : List Nat, Ok g T F (vs.foldr (fun v e => e.set v none) env) (wipe σ vs) H
  | [] => ok
  | j :: vs => by
    have o := Ok.wipe ok vs
    have sn : ∀ {α : Type} {l : List (Option α)} {i : Nat} {t : α}, (l.set j none)[i]? = some (some t) → j ≠ i ∧ l[i]? = some (some t) := fun {α l i t} h => by
      by_cases e : j = i
      · subst e
        rw [List.getElem?_set] at h
        simp only [if_true] at h
        split at h <;> simp at h
      · rw [List.getElem?_set_ne e] at h
        exact ⟨e, h⟩
    show Ok g T F ((vs.foldr (fun v e => e.set v none) env).set j none) ((L2.wipe σ vs).set j none) H
    refine ⟨o.grow, o.sto, by rw [List.length_set, List.length_set]; exact o.len, fun i d e => ?_, fun i e => ?_, fun i ys e => ?_, fun i k ys zs hne e e' => ?_⟩
    · obtain ⟨n, e⟩ := sn e
      rw [List.getElem?_set_ne n]; exact o.val i d e
    · obtain ⟨n, e⟩ := sn e
      rw [List.getElem?_set_ne n]; exact o.stor i e
    · obtain ⟨n, e⟩ := sn e
      rw [List.getElem?_set_ne n]; exact o.own i ys e
    · obtain ⟨n, e⟩ := sn e
      obtain ⟨n', e'⟩ := sn e'
      rw [List.getElem?_set_ne n, List.getElem?_set_ne n']; exact o.dis i k ys zs hne e e'
abbrev wipeE (env : En) (vs : List Nat) : En := vs.foldr (fun v e => e.set v none) env
theorem NotOwn.wipe {a : Addr} (h : NotOwn env σ a) (hl : σ.length = env.length) : ∀ vs : List Nat, NotOwn (wipeE env vs) (wipe σ vs) a
  | [] => h
  | j :: vs => fun i ys e => by
    have h2 := NotOwn.wipe h hl vs
    have e' : ((wipeE env vs).set j none)[i]? = some (some (.own ys)) := e
    show ((L2.wipe σ vs).set j none)[i]? ≠ _
    by_cases q : j = i
    · subst q
      rw [List.getElem?_set] at e'
      simp only [if_true] at e'
      split at e' <;> simp at e'
    · rw [List.getElem?_set_ne q] at e' ⊢
      exact h2 i ys e'
/-- a list that nobody else holds changes -/
theorem Ok.updOwn {p : Addr} {o : HO} (ok : Ok g T F env σ H) (hF : F p = none) (hs : p ≠ g.st) (h0 : g.H0 p = none) (no : NotOwn env σ p) : Ok g T F env σ (upd H p o) :=
  ⟨⟨ok.grow.ff, fun b x e => by rw [upd_ne (ne_of_none e hF)]; exact ok.fh b x e, fun b x n e => by rw [upd_ne (ne_of_none e h0)]; exact ok.grow.hh b x n e, ok.grow.nf, ok.grow.sf⟩, ok.sto.to (Evl.Ex.refl F) (upd_ne hs.symm) ok.sto.free, ok.len, ok.val, ok.stor, fun i ys e => by
    obtain ⟨a, e1, e2⟩ := ok.own i ys e
    obtain ⟨us, e3, e4⟩ := e2.at'
    have ne : a ≠ p := fun z => no i ys e (by rw [← z]; exact e1)
    exact ⟨a, e1, e2.ns, e2.new, e2.nf, us, by rw [upd_ne ne]; exact e3, e4⟩, ok.dis⟩
def lcW (b : BD) (ft : TD) (fe : ED) (env0 : En) (Q : List D → Prop) : List D → List D → Prop
  | [], acc => Q acc
  | d :: ds, acc => b d env0 (fun env1 => ft env1 (fun t => if t = true then frz fe env1 (fun r => ∃ e, r = .val e ∧ lcW b ft fe env0 Q ds (acc ++ [e])) (fun _ => False) else lcW b ft fe env0 Q ds acc) (fun _ => False))
theorem lcW_mono {b : BD} {ft : TD} {fe : ED} {env0 : En} {Q Q' : List D → Prop} (hb : ∀ d env P P', (∀ e, P e → P' e) → b d env P → b d env P') (ht : MonoE ft) (he : MonoE (frz fe)) (hq : ∀ l, Q l → Q' l) : ∀ ds acc, lcW b ft fe env0 Q ds acc → lcW b ft fe env0 Q' ds acc
  | [], acc, h => hq _ h
  | d :: ds, acc, h => hb _ _ _ _ (fun e q => ht e _ _ _ _ (fun t q => by
    cases t with
    | true =>
      have q' : frz fe e (fun r => ∃ z, r = .val z ∧ lcW b ft fe env0 Q ds (acc ++ [z])) (fun _ => False) := q
      show frz fe e (fun r => ∃ z, r = .val z ∧ lcW b ft fe env0 Q' ds (acc ++ [z])) (fun _ => False)
      refine he e _ _ _ _ (fun r h => ?_) (fun _ h => h) q'
      obtain ⟨z, e1, q⟩ := h
      exact ⟨z, e1, lcW_mono hb ht he hq ds _ q⟩
    | false => exact lcW_mono hb ht he hq ds _ q) (fun _ h => h) q) h
def eLc (fi : ID) (b : BD) (ft : TD) (fe : ED) (vs : List Nat) : ED := fun env Q E => fi env (fun items => items.length ≤ NN ∧ lcW b ft fe (wipeE env vs) (fun acc => Q (.own acc)) items []) E
/-- the tests of a clause -/
structure DTs (X : Cx) (g : G) (W : WX) (c : Nat) (ifs : List Expr) (f : TD) : Prop where
  pts : PTs X ifs (tDT g W c f)
  mono : MonoE f
theorem PTsimp {X : Cx} {e : List Expr} {t t' : TT} (h : PTs X e t) (i : ∀ σ H Q, t' σ H Q → t σ H Q) : PTs X e t' := ⟨fun pins s σ H Q I q => h.run pins s σ H Q I (i σ H Q q)⟩
def tYesD : TD := fun _ Q _ => Q true
theorem dts_nil : DTs X g W 0 [] tYesD := ⟨PTsimp pts_nil fun σ H Q ⟨T, F, env, hT, ok, h⟩ => h F H ok.refl ok, fun env Q Q' E E' hq he q => hq _ q⟩
theorem dts_one {c : Expr} (h : DT X g W ca c ta) : DTs X g W ca [c] ta := ⟨PTsimp (pts_one h.pt) fun σ H Q q => q, h.mono⟩
abbrev W0 : WX := fun _ _ _ _ => False
theorem Cy.blk (cy : Cy X g W) (s : Shared) (H : Hp) (scope : Scope) (cenv : PySem.Env) (fp : List Addr) : Cy (X.blk s H scope cenv fp) g W0 :=
  ⟨cy.k, fun u s' ⟨a, B, sI, pins, σ, H, cls, d, e, I, nb, up, sky, na, os, ag, w⟩ => w.elim, cy.un, cy.calm, PassesOwn.never⟩
theorem wipe_wipe (σ : St) (vs : List Nat) : wipe (wipe σ vs) vs = wipe σ vs := by
  apply List.ext_getElem?
  intro k
  rw [wipe_get, wipe_get, wipe_length]
  by_cases c : k ∈ vs ∧ k < σ.length
  · rw [if_pos c, if_pos c]
  · rw [if_neg c, if_neg c]
theorem lc_fit (cy : Cy X g W) {elt tg iter : Expr} {ifs : List Expr} {scope : Scope} {own : List (Str × Nat)} {pos : Pos} {fi : ID} {b : BD} {sl : List Nat} {t : TG} {ft : TD} {fe : ED} (hN : X.N.Nodup) (hi : DI X g W ca tg iter fi) (ok : BlkOk X.N X.env.scope scope own)
    (hg : ∀ (s : Shared) (H : Hp) (C : Addr) (cl : List (Str × Addr)) (fp : List Addr), Cy (X.blk s H scope (compEnvC scope cl C X.env) fp) g W0 → DG (X.blk s H scope (compEnvC scope cl C X.env) fp) g tg b sl t)
    (ht : ∀ (s : Shared) (H : Hp) (C : Addr) (cl : List (Str × Addr)) (fp : List Addr), Cy (X.blk s H scope (compEnvC scope cl C X.env) fp) g W0 → DTs (X.blk s H scope (compEnvC scope cl C X.env) fp) g W0 cb ifs ft)
    (he : ∀ (s : Shared) (H : Hp) (C : Addr) (cl : List (Str × Addr)) (fp : List Addr), Cy (X.blk s H scope (compEnvC scope cl C X.env) fp) g W0 → DE (X.blk s H scope (compEnvC scope cl C X.env) fp) g W0 cc elt fe)
    (hsl : ∀ i ∈ sl, i ∈ own.map (·.2) := by decide) :
    (∀ σ H Q, tD g W (ca + NN * (cb + cc)) (eLc fi b ft fe (own.map (·.2))) σ H Q → tLc (tDI g W ca fi) t (tDT g W0 cb ft) (tD g W0 cc (frz fe)) (own.map (·.2)) σ H Q) ∧ MonoE (eLc fi b ft fe (own.map (·.2))) := by
  have hg0 := hg X.s_0 X.H_0 0 [] [] (cy.blk _ _ _ _ _)
  have ht0 := ht X.s_0 X.H_0 0 [] [] (cy.blk _ _ _ _ _)
  have he0 := (he X.s_0 X.H_0 0 [] [] (cy.blk _ _ _ _ _)).frz
  refine ⟨fun σ H Q ⟨T, F, env, hT, o0, h⟩ => ?_,
    fun env Q Q' E E' hq hx h => hi.mono env _ _ _ _ (fun is q => ⟨q.1, lcW_mono hg0.mono ht0.mono he0.mono (fun l q => hq _ q) _ _ q.2⟩) hx h⟩
  refine ⟨T, F, env, by omega, o0, hi.mono env _ _ _ _ (fun items ⟨hl, q⟩ F1 H1 J w o wk p hp => ?_) (exE.shift o0.refl (by omega)) h⟩
  generalize hvs : own.map (·.2) = vs at q hsl ⊢
  have np : p ≠ g.st := fun z => o.sto.some (by rw [← z]; exact hp)
  have h0p : g.H0 p = none := (o.newOf p hp).resolve_right np
  have hHp : H p = none := by
    cases e : H p with
    | none => rfl
    | some x =>
      have z := w.hh p x np e
      rw [hp] at z
      cases z
  have now : NotOwn (wipeE env vs) (wipe σ vs) p := (o.notOwn hp).wipe o.len vs
  refine ⟨fun i m H' => m = items.length - i ∧ i ≤ items.length ∧ ∃ F' acc us, Grow g.st F1 H1 F' H' ∧ StoreAt g.K g.st (T + ca + i * (cb + cc)) F' H' ∧ H' p = some (.lst us) ∧ F' p = none ∧ RepL g.K F' acc us ∧ acc.length ≤ i ∧ lcW b ft fe (wipeE env vs) (fun acc => okE g T (ca + NN * (cb + cc)) F env σ H Q (.own acc)) (items.drop i) acc,
    ⟨items.length, rfl, Nat.zero_le _, F1, [], [], Grow.new o.fh o.sto.free hp, (o.sto.new hp).up (by omega), upd_same, Evl.fresh_back o.fh hp, repL_nil.mpr rfl, Nat.le_refl _, by simpa using q⟩, ?_⟩
  rintro i m H' ⟨rfl, hi', F', acc, us, g1, s1, hp1, hf1, r1, l1, q⟩
  have ok' : Ok g (T + ca + i * (cb + cc)) F' env σ H' := o.grown g1 s1
  by_cases hlt : i < items.length
  · have hm : (i + 1) * (cb + cc) ≤ NN * (cb + cc) := Nat.mul_le_mul_right _ (by omega)
    have hm2 : (i + 1) * (cb + cc) = i * (cb + cc) + (cb + cc) := Nat.succ_mul i _
    have okw := ok'.wipe vs
    refine .inr ⟨wk.go g1.ff ok'.fh hlt, fun H2 => ∃ m', m' < items.length - i ∧ m' = items.length - (i + 1) ∧ (i + 1) ≤ items.length ∧ ∃ F' acc us, Grow g.st F1 H1 F' H2 ∧ StoreAt g.K g.st (T + ca + (i + 1) * (cb + cc)) F' H2 ∧ H2 p = some (.lst us) ∧ F' p = none ∧ RepL g.K F' acc us ∧ acc.length ≤ i + 1 ∧ lcW b ft fe (wipeE env vs) (fun acc => okE g T (ca + NN * (cb + cc)) F env σ H Q (.own acc)) (items.drop (i + 1)) acc, ?_, ?_⟩
    · rintro H2 ⟨m', hm', rfl, r2, r3⟩
      exact ⟨_, hm', rfl, r2, r3⟩
    · intro xv H2 hy
      obtain ⟨d, F2, hd, w2, o2, rd⟩ := wk.yld hlt g1.ff okw hy
      have ed : items.drop i = d :: items.drop (i + 1) := by
        rw [List.drop_eq_getElem_cons hlt]
        rw [List.getElem?_eq_getElem hlt] at hd
        cases hd
        rfl
      rw [ed] at q
      refine hg0.snd o2 rd q fun env3 σ3 o3 kp q3 => ⟨(kp vs hsl).trans (wipe_wipe σ vs), ?_⟩
      refine ⟨T + ca + i * (cb + cc), F2, env3, by omega, o3, ht0.mono env3 _ _ _ _ (fun tb q4 F3 H3 w3 o4 => ?_) (fun x f => f.elim) q3⟩
      cases tb with
      | true =>
        have q4' : frz fe env3 (fun r => ∃ e, r = .val e ∧ lcW b ft fe (wipeE env vs) (fun acc => okE g T (ca + NN * (cb + cc)) F env σ H Q (.own acc)) (items.drop (i + 1)) (acc ++ [e])) (fun _ => False) := q4
        refine ⟨T + ca + i * (cb + cc) + cb, F3, env3, by omega, o4, he0.mono env3 _ _ _ _ (fun r hz F4 H4 v4 w4 o5 r5 => ?_) (fun x f => f.elim) q4'⟩
        obtain ⟨z, rfl, q5⟩ := hz
        have wt := w2.trans (w3.trans w4)
        have hp4 := wt.hh p _ np hp1
        have hf4 := wt.nf p hf1 (by rw [hp1]; exact fun z => nomatch z)
        refine ⟨us, hp4, lim_lt (by have := r1.length; have h5 : items.length ≤ 1000 := hl; show us.length < 100000; omega), items.length - (i + 1), by omega, rfl, hlt, F4, acc ++ [z], us ++ [v4], ?_, ?_, upd_same, hf4, (r1.mono wt.ff).append (repL_cons.mpr ⟨v4, [], rfl, r5, repL_nil.mpr rfl⟩), by simp; omega, q5⟩
        · have gt := g1.trans wt
          exact ⟨gt.ff, fun b x e => by rw [upd_ne (ne_of_none e hf4)]; exact gt.fh b x e, fun b x n e => by rw [upd_ne (ne_of_none e hp)]; exact gt.hh b x n e, gt.nf, gt.sf⟩
        · exact (o5.sto.to (Evl.Ex.refl F4) (upd_ne np.symm) o5.sto.free).up (by omega)
      | false =>
        have q4' : lcW b ft fe (wipeE env vs) (fun acc => okE g T (ca + NN * (cb + cc)) F env σ H Q (.own acc)) (items.drop (i + 1)) acc := q4
        have wt := w2.trans w3
        have hp4 := wt.hh p _ np hp1
        have hf4 := wt.nf p hf1 (by rw [hp1]; exact fun z => nomatch z)
        exact ⟨items.length - (i + 1), by omega, rfl, hlt, F3, acc, us, g1.trans wt, o4.sto.up (by omega), hp4, hf4, r1.mono wt.ff, by omega, q4'⟩
  · have hle : items.length ≤ i := by omega
    refine .inl ⟨wk.stop g1.ff ok'.fh hle, ?_⟩
    rw [List.drop_eq_nil_of_le hle] at q
    have hm : i * (cb + cc) ≤ NN * (cb + cc) := Nat.mul_le_mul_right _ (by omega)
    have ok2 := ok'.up (T' := T + (ca + NN * (cb + cc))) (by omega)
    exact q F' H' (.ref p) (w.trans g1) ok2 ⟨p, rfl, ⟨np, hHp, hf1, us, hp1, r1⟩, o.notOwn hp⟩
theorem de_lc (cy : Cy X g W) {elt tg iter : Expr} {ifs : List Expr} {scope : Scope} {own : List (Str × Nat)} {pos : Pos} {fi : ID} {b : BD} {sl : List Nat} {t : TG} {ft : TD} {fe : ED} (hN : X.N.Nodup) (hi : DI X g W ca tg iter fi) (ok : BlkOk X.N X.env.scope scope own)
    (hg : ∀ (s : Shared) (H : Hp) (C : Addr) (cl : List (Str × Addr)) (fp : List Addr), Cy (X.blk s H scope (compEnvC scope cl C X.env) fp) g W0 → DG (X.blk s H scope (compEnvC scope cl C X.env) fp) g tg b sl t)
    (ht : ∀ (s : Shared) (H : Hp) (C : Addr) (cl : List (Str × Addr)) (fp : List Addr), Cy (X.blk s H scope (compEnvC scope cl C X.env) fp) g W0 → DTs (X.blk s H scope (compEnvC scope cl C X.env) fp) g W0 cb ifs ft)
    (he : ∀ (s : Shared) (H : Hp) (C : Addr) (cl : List (Str × Addr)) (fp : List Addr), Cy (X.blk s H scope (compEnvC scope cl C X.env) fp) g W0 → DE (X.blk s H scope (compEnvC scope cl C X.env) fp) g W0 cc elt fe)
    (hsl : ∀ i ∈ sl, i ∈ own.map (·.2) := by decide) (hfs : ∀ (x : Value), foldedSetIterable iter X.env x = pure x := by intro _; rfl) :
    DE X g W (ca + NN * (cb + cc)) (.ListComp elt [⟨tg, iter, ifs, 0⟩] scope pos) (eLc fi b ft fe (own.map (·.2))) := by
  have f := lc_fit cy hN hi ok hg ht he hsl (elt := elt) (pos := pos)
  exact ⟨PEimp (pe_lc cy.calm hN hi.pi ok (fun s H C cl fp => (hg s H C cl fp (cy.blk _ _ _ _ _)).pg) (fun s H C cl fp => (ht s H C cl fp (cy.blk _ _ _ _ _)).pts) (fun s H C cl fp => (he s H C cl fp (cy.blk _ _ _ _ _)).frz.pe) hfs) f.1, f.2⟩
/-- a name for a new list, on one line -/
theorem ds_asgLc (i : Nat) {x : Str} {spos pos' : Pos} (cy : Cy X g W) {elt tg iter : Expr} {ifs : List Expr} {scope : Scope} {own : List (Str × Nat)} {pos : Pos} {fi : ID} {b : BD} {sl : List Nat} {t : TG} {ft : TD} {fe : ED} (hN : X.N.Nodup) (hi : DI X g W ca tg iter fi) (ok : BlkOk X.N X.env.scope scope own)
    (hg : ∀ (s : Shared) (H : Hp) (C : Addr) (cl : List (Str × Addr)) (fp : List Addr), Cy (X.blk s H scope (compEnvC scope cl C X.env) fp) g W0 → DG (X.blk s H scope (compEnvC scope cl C X.env) fp) g tg b sl t)
    (ht : ∀ (s : Shared) (H : Hp) (C : Addr) (cl : List (Str × Addr)) (fp : List Addr), Cy (X.blk s H scope (compEnvC scope cl C X.env) fp) g W0 → DTs (X.blk s H scope (compEnvC scope cl C X.env) fp) g W0 cb ifs ft)
    (he : ∀ (s : Shared) (H : Hp) (C : Addr) (cl : List (Str × Addr)) (fp : List Addr), Cy (X.blk s H scope (compEnvC scope cl C X.env) fp) g W0 → DE (X.blk s H scope (compEnvC scope cl C X.env) fp) g W0 cc elt fe)
    (hsl : ∀ i ∈ sl, i ∈ own.map (·.2) := by decide) (hfs : ∀ (x : Value), foldedSetIterable iter X.env x = pure x := by intro _; rfl)  (hx : X.N[i]? = some x := by rfl) (hxl : X.env.scope.names.lookup x = some .local := by rfl) (hk : X.env.scope.kind = .function := by rfl) (hl : (pos'.line == pos.line) = true := by rfl) (ha : (scope.names.any fun (n, k) => n == x && (k == .local || k == .cell)) = false := by rfl) :
    DS X g W (ca + NN * (cb + cc)) (.Assign [.Name x pos'] (.ListComp elt [⟨tg, iter, ifs, 0⟩] scope pos) spos) (sAsg i (eLc fi b ft fe (own.map (·.2)))) := by
  have f := lc_fit cy hN hi ok hg ht he hsl (elt := elt) (pos := pos)
  refine ⟨PSimp (ps_setLc cy.calm hN hx hxl (sw_true hk hxl hl ha) hi.pi ok (fun s H C cl fp => (hg s H C cl fp (cy.blk _ _ _ _ _)).pg) (fun s H C cl fp => (ht s H C cl fp (cy.blk _ _ _ _ _)).pts) (fun s H C cl fp => (he s H C cl fp (cy.blk _ _ _ _ _)).frz.pe) hfs) fun D σ H ⟨T, F, env, hT, ok, h⟩ => ?_, mono_asg f.2⟩
  refine f.1 σ H _ ?_
  exact run_e ok hT f.2 h (fun r ⟨s, h1, q⟩ F1 H1 v w o rr => q F1 _ H1 w.ff (o.setR i h1 rr ok.newOf)) (exE.of ok (Nat.le_refl _) rfl)
end
end DL

namespace DL
open PySem PySem.Spec L2
section
variable {X : Cx} {g : G} {W : WX} {T T' ca cb cc : Nat} {F H F1 H1 Hs Fs : Hp} {env : En} {σ : St} {x y r : RV} {v w : V} {xs ys : List D} {fa fb : ED} {ta : TD} {sa sb : SD}
/-! ### a list of our own changes -/
theorem Ok.mut {i : Nat} {a : Addr} {ds' : List D} {vs' : List V} (ok : Ok g T F env σ H) (e : env[i]? = some (some (.own xs))) (es : σ[i]? = some (some (.ref a))) (r : RepL g.K F ds' vs') : Ok g T F (env.set i (some (.own ds'))) σ (upd H a (.lst vs')) := by
  obtain ⟨b, e1, o⟩ := ok.own i xs e
  rw [es] at e1
  cases e1
  have hl := ok.len
  refine ⟨⟨ok.grow.ff, fun b x q => by rw [upd_ne (ne_of_none q o.nf)]; exact ok.fh b x q, fun b x n q => by rw [upd_ne (ne_of_none q o.new)]; exact ok.grow.hh b x n q, ok.grow.nf, ok.grow.sf⟩, ok.sto.to (Evl.Ex.refl F) (upd_ne o.ns.symm) ok.sto.free, by rw [List.length_set]; exact ok.len, fun k d q => ?_, fun k q => ?_, fun k zs q => ?_, fun k l zs us hne q q' => ?_⟩
  · rcases set_none q with ⟨_, _, z⟩ | ⟨_, q⟩
    · cases z
    · exact ok.val k d q
  · rcases set_none q with ⟨_, _, z⟩ | ⟨_, q⟩
    · cases z
    · exact ok.stor k q
  · rcases set_none q with ⟨rfl, hlt, z⟩ | ⟨n, q⟩
    · cases z
      exact ⟨a, es, o.ns, o.new, o.nf, vs', upd_same, r⟩
    · obtain ⟨b, e1, o1⟩ := ok.own k zs q
      have ne : b ≠ a := fun z => ok.dis i k xs zs n e q (by rw [es, e1, z])
      obtain ⟨us, e2, e3⟩ := o1.at'
      exact ⟨b, e1, o1.ns, o1.new, o1.nf, us, by rw [upd_ne ne]; exact e2, e3⟩
  · rcases set_none q with ⟨rfl, hlt, z⟩ | ⟨n, q⟩
    · rcases set_none q' with ⟨z', _, _⟩ | ⟨n', q'⟩
      · exact absurd z' hne
      · exact ok.dis i l xs us hne e q'
    · rcases set_none q' with ⟨rfl, hlt, z⟩ | ⟨n', q'⟩
      · exact ok.dis k i zs xs hne q e
      · exact ok.dis k l zs us hne q q'
/-- x[k] = e -/
def sSetIx (i : Nat) (fk fe : ED) : SD := fun A env => ∃ xs, env[i]? = some (some (.own xs)) ∧ frz fe env (fun r => frz fk env (fun k => ∃ d j n, r = .val d ∧ k = .val (.int n) ∧ ixN xs.length n = some j ∧ A.nx (env.set i (some (.own (xs.set j d))))) (A.ex env)) (A.ex env)
theorem ds_setIx (i : Nat) {n : Str} {ix e : Expr} {p p2 pos : Pos} {fk fe : ED} (hk : DE X g W ca ix fk) (he : DE X g W cb e fe) (ho : PE X (.Name n p) (tVar i))
    (hst : PG X (.Subscript (.Name n p) ix p2) (gSub (tVar i) (tD g W ca (frz fk)) rSetL)) (hs : swapsWithSole [.Subscript (.Name n p) ix p2] e pos.line X.env = pure false := by rfl) (hw : swappedStores [.Subscript (.Name n p) ix p2] e X.env = pure none := by rfl) (hh : (assignEach [.Subscript (.Name n p) ix p2] X.env).map (·.2) = [assign (.Subscript (.Name n p) ix p2) X.env] := by rfl) :
    DS X g W (cb + ca) (.Assign [.Subscript (.Name n p) ix p2] e pos) (sSetIx i fk fe) := by
  refine ⟨PSimp (ps_asg he.frz.pe hst hs hw hh) fun A σ H ⟨T, F, env, hT, ok, xs, e1, h⟩ => ?_, fun A B env l ⟨xs, e1, h⟩ => ⟨xs, e1, he.frz.mono env _ _ _ _ (fun r q => hk.frz.mono env _ _ _ _ (fun k q => ?_) (fun x q => l.ex _ _ q) q) (fun x q => l.ex _ _ q) h⟩⟩
  · refine run_e ok (by omega) he.frz.mono h (fun r q F1 H1 v w o rr => ?_) (exE.of ok (by omega) rfl)
    obtain ⟨a, e2, oa⟩ := ok.own i xs e1
    refine ⟨_, e2, ?_⟩
    refine run_e o (by omega) hk.frz.mono q (fun k q F2 H2 v2 w2 o2 rk => ?_) (fun x q => exE.of (cc := ca) o (Nat.le_refl _) rfl x (exS.up w.ff (by omega) q))
    obtain ⟨d, j, n, rfl, rfl, q3, q4⟩ := q
    obtain ⟨b, e3, oa2⟩ := o2.own i xs e1
    rw [e2] at e3
    cases e3
    obtain ⟨vs, e4, e5⟩ := oa2.at'
    simp only [RepR, Rep] at rk
    refine ⟨a, vs, n, j, rfl, rk, e4, by rw [← e5.length]; exact q3, ?_⟩
    exact q4 F2 σ _ (w.trans w2).ff ((o2.mut e1 e2 (e5.set j (Rep.mono w2.ff rr))).up (by omega))
  · obtain ⟨d, j, n, q1, q2, q3, q4⟩ := q
    exact ⟨d, j, n, q1, q2, q3, l.nx _ q4⟩
theorem pg_own (i : Nat) {n : Str} {ix : Expr} {p p2 : Pos} {fk : ED} (hk : DE X g W ca ix fk) (ho : PE X (.Name n p) (tVar i)) (ha : ∀ v, assign (.Subscript (.Name n p) ix p2) X.env v = (do
      let ov ← holding [v] (eval (.Name n p) X.env)
      let iv ← holding [v, ov] (eval ix X.env)
      standAt p2
      holding [v, ov, iv] (setItem ov iv v)
      release [v, ov, iv] []) := by intro _; rfl) : PG X (.Subscript (.Name n p) ix p2) (gSub (tVar i) (tD g W ca (frz fk)) rSetL) := pg_sub ho hk.frz.pe set_list ha
/-- x.m(..), x a list of our own -/
abbrev QM := List RV → List D → (List D → Prop) → Prop
def MutD (g : G) (r : V → List V → Hp → VK → Prop) (q : QM) : Prop := ∀ {T : Nat} {F : Hp} {env : En} {σ : St} {H Hs : Hp} {rs : List RV} {ws : List V} {a : Addr} {xs : List D} {vs : List V} {P : List D → Prop} {Q : VK},
  Ok g T F env σ H → H a = some (.lst vs) → RepL g.K F xs vs → RepRs g Hs F H env σ rs ws → q rs xs P → (∀ ys us v, P ys → RepL g.K F ys us → Q v (upd H a (.lst us))) → r (.ref a) ws H Q
def MonoM (q : QM) : Prop := ∀ rs xs P P', (∀ l, P l → P' l) → q rs xs P → q rs xs P'
def sMut (i : Nat) (q : QM) (fa : AD) : SD := fun A env => ∃ xs, env[i]? = some (some (.own xs)) ∧ fa env (fun rs => q rs xs (fun ys => A.nx (env.set i (some (.own ys))))) (A.ex env)
theorem ds_mut (cy : Cy X g W) (i : Nat) {n name : Str} {e : Expr} {es : List Expr} {id : String} {p apos cpos pos : Pos} {r : V → List V → Hp → VK → Prop} {q : QM} {fa : AD} (pa : PySem.PlainAttrs "list") (slot : Slot "list" name id) (hty : typeOf (.builtin id) = pure (.type "method_descriptor")) (hm : MtR X id r) (hq : MutD g r q) (mq : MonoM q)
    (ho : PE X (.Name n p) (tVar i)) (ha : DA X g W ca (e :: es) fa)
    (hbase : attributeBase (.Name n p) name X.env (eval (.Name n p) X.env) = eval (.Name n p) X.env := by rfl)
    (hfew : ((backTo cpos (starEach (e :: es) X.env)).all (fun x => !x.1) && (backToKw cpos (keywordEach [] X.env)).all (fun x => x.1.isSome)
      && decide ((e :: es).length + ([] : List Keyword).length + (if ([] : List Keyword).isEmpty then 0 else 1) < 30)) = true := by rfl)
    (hline : (apos.endLine == cpos.line) = true := by rfl) (hs : starEach (e :: es) X.env = (false, eval e X.env) :: starEach es X.env := by rfl) (hplain : (backTo cpos (starEach es X.env)).any (·.1) = false := by rfl)
    (hsw : swapsWith (.Call (.Attribute (.Name n p) name apos) (e :: es) [] cpos) none pos.line X.env = pure false := by rfl) :
    DS X g W ca (.Expr (.Call (.Attribute (.Name n p) name apos) (e :: es) [] cpos) pos) (sMut i q fa) := by
  have hp := pe_bm pa slot hty hm ho ha.pa hbase hfew hline hs hplain
  rw [cy.k] at hp
  refine ⟨PSimp (ps_expr hp hsw) fun A σ H ⟨T, F, env, hT, ok, xs, e1, h⟩ => ?_, fun A B env l ⟨xs, e1, h⟩ => ⟨xs, e1, ha.mono env _ _ _ _ (fun rs q => mq _ _ _ _ (fun ys q => l.nx _ q) q) (fun x q => l.ex _ _ q) h⟩⟩
  obtain ⟨a, e2, oa⟩ := ok.own i xs e1
  obtain ⟨vs0, e3, e4⟩ := oa.at'
  refine ⟨.ref a, e2, .inl ⟨rfl, vs0, .inl (.inl e3)⟩, ?_⟩
  refine run_a ok (by omega) ha.mono h (fun rs q F1 H1 ws w o rr => ?_) (exE.of ok (by omega) rfl)
  obtain ⟨b, e5, oa2⟩ := o.own i xs e1
  rw [e2] at e5
  cases e5
  obtain ⟨vs, e6, e7⟩ := oa2.at'
  exact hq o e6 e7 rr q fun ys us v py ry => py F1 σ _ w.ff (o.mut e1 e2 ry)
theorem ds_mut0 (cy : Cy X g W) (i : Nat) {n name : Str} {id : String} {p apos cpos pos : Pos} {r : V → List V → Hp → VK → Prop} {q : QM} (pa : PySem.PlainAttrs "list") (slot : Slot "list" name id) (hty : typeOf (.builtin id) = pure (.type "method_descriptor")) (hm : MtR X id r) (hq : MutD g r q) (mq : MonoM q)
    (ho : PE X (.Name n p) (tVar i))
    (hp : PE X (.Call (.Attribute (.Name n p) name apos) [] [] cpos) (tBM0 X.K "list" r (tVar i)))
    (hsw : swapsWith (.Call (.Attribute (.Name n p) name apos) [] [] cpos) none pos.line X.env = pure false := by rfl) :
    DS X g W 0 (.Expr (.Call (.Attribute (.Name n p) name apos) [] [] cpos) pos) (sMut i q aNil) := by
  rw [cy.k] at hp
  refine ⟨PSimp (ps_expr hp hsw) fun A σ H ⟨T, F, env, hT, ok, xs, e1, h⟩ => ?_, fun A B env l ⟨xs, e1, h⟩ => ⟨xs, e1, mq _ _ _ _ (fun ys q => l.nx _ q) h⟩⟩
  obtain ⟨a, e2, oa⟩ := ok.own i xs e1
  obtain ⟨vs0, e3, e4⟩ := oa.at'
  refine ⟨.ref a, e2, .inl ⟨rfl, vs0, .inl (.inl e3)⟩, ?_⟩
  exact hq (Hs := H) (rs := []) ok e3 e4 rfl h fun ys us v py ry => py F σ _ (Evl.Ex.refl F) (ok.mut e1 e2 ry)
def appQ : QM := fun rs xs P => match rs with
  | [.val d] => xs.length < LIM ∧ P (xs ++ [d])
  | _ => False
theorem mono_appQ : MonoM appQ := fun rs xs P P' hp q => by
  unfold appQ at q ⊢
  split
  · exact ⟨q.1, hp _ q.2⟩
  · split at q
    · simp_all
    · exact q
theorem d_append : MutD g rAppend appQ := by
  intro T F env σ H Hs rs ws a xs vs P Q ok ha r rr q k
  unfold appQ at q
  split at q
  · obtain ⟨v, rfl, rv⟩ := rs1 (rs := []) rr
    exact ⟨a, vs, v, rfl, rfl, ha, lim_lt (by rw [← r.length]; exact q.1), k _ _ _ q.2 (r.append (repL_cons.mpr ⟨v, [], rfl, rv, repL_nil.mpr rfl⟩))⟩
  · exact q.elim
def insQ : QM := fun rs xs P => match rs with
  | [.val (.int i), .val d] => xs.length < LIM ∧ 0 ≤ i ∧ i < 2 ^ 63 ∧ P (xs.take i.toNat ++ [d] ++ xs.drop i.toNat)
  | _ => False
theorem mono_insQ : MonoM insQ := fun rs xs P P' hp q => by
  unfold insQ at q ⊢
  split
  · exact ⟨q.1, q.2.1, q.2.2.1, hp _ q.2.2.2⟩
  · split at q
    · simp_all
    · exact q
theorem d_insert : MutD g (fun x vs H Q => ∃ (l : Addr) (xs : List V) (i : Int) (y : V), x = .ref l ∧ vs = [.int i, y] ∧ H l = some (.lst xs) ∧ xs.length < sizeLine ∧ 0 ≤ i ∧ i < 2 ^ 63 ∧ Q .non (upd H l (.lst (xs.take i.toNat ++ [y] ++ xs.drop i.toNat)))) insQ := by
  intro T F env σ H Hs rs ws a xs vs P Q ok ha r rr q k
  unfold insQ at q
  split at q
  · obtain ⟨v, u, rfl, rv, ru⟩ := rs2 rr
    simp only [RepR, Rep] at rv
    subst rv
    exact ⟨a, vs, _, u, rfl, rfl, ha, lim_lt (by rw [← r.length]; exact q.1), q.2.1, q.2.2.1, k _ _ _ q.2.2.2 (((r.take _).append (repL_cons.mpr ⟨u, [], rfl, ru, repL_nil.mpr rfl⟩)).append (r.drop _))⟩
  · exact q.elim

/-! ### defs -/
abbrev FD := List RV → (RV → Prop) → (Exc → Prop) → Prop
def MonoF (f : FD) : Prop := ∀ rs Q Q' E E', (∀ r, Q r → Q' r) → (∀ x, E x → E' x) → f rs Q E → f rs Q' E'
def ArgR (K : PySem.W.Frag) (st : Addr) (F : Hp) : List RV → List V → Prop
  | [], vs => vs = []
  | r :: rs, vs => ∃ v w, vs = v :: w ∧ (match r with | .val d => Rep K F d v | .sto => v = .ref st | _ => False) ∧ ArgR K st F rs w
theorem ArgR.length {K : PySem.W.Frag} {st : Addr} {F : Hp} : ∀ {rs : List RV} {vs : List V}, ArgR K st F rs vs → vs.length = rs.length
  | [], _, h => by rw [show _ = _ from h]; rfl
  | r :: rs, _, h => by
    obtain ⟨v, w, rfl, _, h2⟩ := h
    simp [ArgR.length h2]
def spD (K : PySem.W.Frag) (n : Nat) (f : FD) : Sp := fun vs H Q E => ∃ st F rs, rs.length = n ∧ StoreAt K st 0 F H ∧ Ex F H ∧ ArgR K st F rs vs ∧
  f rs (fun r => ∀ F' H' v, Grow st F H F' H' → StoreAt K st 0 F' H' → RetR K st H F' H' r v → Q v H') (fun x => ∀ F' H' d, Grow st F H F' H' → StoreAt K st 0 F' H' → RepX K F' x d → E (.ref x.C) d H')
def slotOf : RV → Option SV
  | .val d => some (.val d)
  | .sto => some .sto
  | _ => none
def startE (n : Nat) (rs : List RV) : En := rs.map slotOf ++ List.replicate (n - rs.length) none
theorem argR_get {K : PySem.W.Frag} {st : Addr} {F : Hp} : ∀ {rs : List RV} {vs : List V} {i : Nat} {s : SV}, ArgR K st F rs vs → (rs.map slotOf)[i]? = some (some s) → ∃ v, vs[i]? = some v ∧ (match s with | .val d => Rep K F d v | .sto => v = .ref st | _ => False)
  | [], _, _, _, _, e => by simp at e
  | r :: rs, _, 0, s, h, e => by
    obtain ⟨v, w, rfl, h1, h2⟩ := h
    simp at e
    refine ⟨v, rfl, ?_⟩
    cases r <;> simp [slotOf] at e <;> subst e <;> exact h1
  | r :: rs, _, i + 1, s, h, e => by
    obtain ⟨v, w, rfl, h1, h2⟩ := h
    simpa using argR_get h2 (by simpa using e)
theorem ok_start {K : PySem.W.Frag} {st : Addr} {N : List Str} {rs : List RV} {vs : List V} (s : StoreAt K st T F H) (e : Ex F H) (a : ArgR K st F rs vs) (hn : rs.length ≤ N.length) : Ok ⟨K, st, F, H⟩ T F (startE N.length rs) (L2.start N vs) H := by
  have hl := a.length
  have key : ∀ {i : Nat} {s : SV}, (startE N.length rs)[i]? = some (some s) → ∃ v, (L2.start N vs)[i]? = some (some v) ∧ (match s with | .val d => Rep K F d v | .sto => v = .ref st | _ => False) := fun {i s} q => by
    unfold startE at q
    by_cases hi : i < rs.length
    · rw [List.getElem?_append_left (by simpa using hi)] at q
      obtain ⟨v, h1, h2⟩ := argR_get a q
      refine ⟨v, ?_, h2⟩
      unfold L2.start
      rw [List.getElem?_append_left (by simp; omega), List.getElem?_map, h1]
      rfl
    · rw [List.getElem?_append_right (by simp; omega), List.getElem?_replicate] at q
      split at q <;> simp at q
  refine ⟨Grow.refl e s.free, s, by simp [startE, L2.start]; omega, fun i d q => ?_, fun i q => ?_, fun i xs q => ?_, fun i j xs ys _ q => ?_⟩
  · exact key q
  · obtain ⟨v, h1, h2⟩ := key q
    rw [h1]
    exact congrArg (fun z => some (some z)) h2
  · obtain ⟨v, h1, h2⟩ := key q
    exact h2.elim
  · obtain ⟨v, h1, h2⟩ := key q
    exact h2.elim
abbrev endsD (Q : RV → Prop) (E : Exc → Prop) : DEn := ⟨fun _ => Q (.val .non), Q, fun _ => False, fun _ => False, fun _ x => E x⟩
theorem fn_okD {P : Program} {w : World} {K : PySem.W.Frag} {mg : Str → Option Value} {base : Heap} {x qual : Str} {st : Stmt} {f : Addr} {fd : FuncData} {N ps : List Str} {k : Nat} {fn : FD} (Fn : Fun K x qual st f fd) (S : FnScope N ps (defScope st)) (hn : ps.length ≤ N.length)
    (hb : ∀ (cdv : Value) (A : Around) (outer : List PySem.Env) (s : Shared) (H : Hp) (E : XK) (g : G), g.K = K → Room k (A.deeper (PyProof.Rows.envOfC qual (defScope st) s.heap.objs.size f cdv)) →
      Cy (cxOf (L2.CX P w) P w K mg base N qual (defScope st) f cdv A outer s H E) g (fun cls d _ H => E cls d H) →
      ∃ c fb, DSs (cxOf (L2.CX P w) P w K mg base N qual (defScope st) f cdv A outer s H E) g (fun cls d _ H => E cls d H) c (defBody st) fb ∧ ∀ rs Q Ex, rs.length = ps.length → fn rs Q Ex → fb (endsD Q Ex) (startE N.length rs)) :
    FnOk P w K mg base (L2.CX P w) (k + 1) f fd ps (spD K ps.length fn) := by
  refine Fn.okX S (fun vs H Q E h => ?_) (fun cdv A outer s H vs Q E hr h => ?_)
  · obtain ⟨st, F, rs, h1, _, _, h2, _⟩ := h
    rw [h2.length, h1]
  · obtain ⟨st, F, rs, h1, hs, he, ha, hf⟩ := h
    obtain ⟨c, fb, d, imp⟩ := hb cdv A outer s H E ⟨K, st, F, H⟩ rfl hr ⟨rfl, takes_of rfl rfl rfl rfl, by have := hr.un; show (A.deeper (PyProof.Rows.envOfC qual (defScope _) s.heap.objs.size f cdv)).units + 66 < cLine; omega, rfl, passes_of rfl⟩
    have q := imp rs _ _ h1 hf
    refine ⟨_, d.ps, 0, F, startE N.length rs, Nat.le_refl _, ok_start hs he ha (by omega), d.mono _ _ _ ?_ q⟩
    refine ⟨fun e q F' σ' H' e' o => q F' H' .non o.grow o.sto.any (by simp only [RetR, Rep]), fun r q F' H' v w s rr => q F' H' v w s.any rr, fun e q => q.elim, fun e q => q.elim, fun e x q F' σ' H' d e' o rx => q F' H' d o.grow o.sto.any rx⟩
/-! ### a call of a def of ours -/
/-- a mark: what it speaks of is not rewritten -/
def Fx {α : Type} (_ : α) : Type := Unit
/-- the callee's own reading, kept closed -/
def app (fn : FD) (rs : List RV) (Q : RV → Prop) (E : Exc → Prop) (_u : Fx (Q, E) := ()) : Prop := fn rs Q E
def argOk : RV → Prop
  | .val _ => True
  | .sto => True
  | _ => False
def eFn (n : Nat) (fn : FD) (fa : AD) : ED := fun env Q E => fa env (fun rs => rs.length = n ∧ (∀ r ∈ rs, argOk r) ∧ app fn rs Q E) E
theorem argR_of : ∀ {rs : List RV} {vs : List V}, (∀ r ∈ rs, argOk r) → RepRs g Hs F H env σ rs vs → ArgR g.K g.st F rs vs
  | [], _, _, h => h
  | r :: rs, _, n, h => by
    obtain ⟨v, w, rfl, h1, h2⟩ := h
    refine ⟨v, w, rfl, ?_, argR_of (fun r hr => n r (List.mem_cons_of_mem _ hr)) h2⟩
    have hn := n r List.mem_cons_self
    cases r with
    | val d => exact h1
    | sto => exact h1
    | own _ => exact hn.elim
    | bor _ => exact hn.elim
theorem de_call (cy : Cy X g W) {k n : Nat} {f : Addr} {fd : FuncData} {ps : List Str} {fn : FD} {fa : AD} {x : Str} {e : Expr} {es : List Expr} {p pos : Pos} (Fn : FnOk X.prog X.w X.K X.mg X.base (L2.CX X.prog X.w) k f fd ps (spD X.K n fn)) (mf : MonoF fn) (hr : Room k X.A) (hg : Gl X x) (hm : X.mg x = some (.ref f)) (hk : PySem.W.keepIn X.K (.ref f) = true) (hb : L2.Binds X.K fd ps [])
    (ha : DA X g W ca (e :: es) fa) (hdb : (x == ("__debug__" : Str)) = false := by decide) (he : starEach (e :: es) X.env = (false, eval e X.env) :: starEach es X.env := by rfl) (hpl : (backTo pos (starEach es X.env)).any (·.1) = false := by rfl) :
    DE X g W ca (.Call (.Name x p) (e :: es) [] pos) (eFn n fn fa) := by
  refine ⟨PEimp (pe_callS Fn hr hg hm hk hb (fun σ => passAt cy.tk σ) ha.pa hdb he hpl) fun σ H Q ⟨T, F, env, hT, ok, h⟩ => ?_, fun env Q Q' E E' hq he h => ha.mono env _ _ _ _ (fun rs q => ⟨q.1, q.2.1, mf _ _ _ _ _ hq he q.2.2⟩) he h⟩
  refine run_a ok (by omega) ha.mono h (fun rs ⟨hl, hv, q⟩ F1 H1 vs w o rr => ?_) (exE.shift ok.refl (by omega))
  have ar := argR_of hv rr
  show spD X.K n fn vs H1 Q (WE W σ)
  rw [cy.k]
  refine ⟨g.st, F1, rs, hl, o.sto.any, o.fh, ar, mf _ _ _ _ _ (fun r q F' H' v w2 s2 r2 => ?_) (fun x q F' H' d w2 s2 rx => ?_) q⟩
  · refine q F' H' v (w.trans w2) (o.grown w2 s2.any) ?_
    cases r with
    | val d => exact r2
    | sto => exact r2
    | bor ys => exact r2.elim
    | own ys =>
      obtain ⟨a, rfl, n1, n2, n3, n4⟩ := r2
      have oa : OwnAt g H1 F' H' a ys := ⟨n1, n2, n3, n4⟩
      exact ⟨a, rfl, oa.since w, o.notOwn n2⟩
  · exact q F' H' d (w.trans w2) (o.grown w2 s2.any) rx
end
end DL

namespace DL
open PySem PySem.Spec L2
section
variable {X : Cx} {g : G} {W : WX} {ca cb cc : Nat} {fa fb fc : ED} {ta : TD} {a b c e : Expr} {pos p p2 : Pos} {x : Str}
theorem de_add (cy : Cy X g W) (ha : DE X g W ca a fa) (hb : DE X g W cb b fb) : DE X g W (ca + cb) (.BinOp a .Add b pos) (eOp addQ fa fb) := de_op (by have h := op_addA (X := X); rw [cy.k] at h; exact h) d_add mono_addQ ha hb
theorem de_sub (cy : Cy X g W) (ha : DE X g W ca a fa) (hb : DE X g W cb b fb) : DE X g W (ca + cb) (.BinOp a .Sub b pos) (eOp subQ fa fb) := de_op op_sub d_sub mono_int0Q ha hb
theorem de_mul (cy : Cy X g W) (ha : DE X g W ca a fa) (hb : DE X g W cb b fb) : DE X g W (ca + cb) (.BinOp a .Mult b pos) (eOp mulQ fa fb) := de_op op_mulA d_mul mono_mulQ ha hb
theorem de_fdiv (cy : Cy X g W) (ha : DE X g W ca a fa) (hb : DE X g W cb b fb) : DE X g W (ca + cb) (.BinOp a .FloorDiv b pos) (eOp fdivQ fa fb) := de_op op_fdivN d_fdiv mono_intQ ha hb
theorem de_mod (cy : Cy X g W) (ha : DE X g W ca a fa) (hb : DE X g W cb b fb) : DE X g W (ca + cb) (.BinOp a .Mod b pos) (eOp modQ fa fb) := de_op op_modN d_mod mono_intQ ha hb
theorem de_pow (cy : Cy X g W) (ha : DE X g W ca a fa) (hb : DE X g W cb b fb) : DE X g W (ca + cb) (.BinOp a .Pow b pos) (eOp powQ fa fb) := de_op op_pow d_pow mono_intQ ha hb
theorem de_lt (cy : Cy X g W) (ha : DE X g W ca a fa) (hb : DE X g W cb b fb) : DE X g W (ca + cb) (.Compare a [.Lt] [b] pos) (eOp ltQ fa fb) := de_cmp op_lt d_lt mono_int0Q ha hb (nomark _)
theorem de_le (cy : Cy X g W) (ha : DE X g W ca a fa) (hb : DE X g W cb b fb) : DE X g W (ca + cb) (.Compare a [.LtE] [b] pos) (eOp leQ fa fb) := de_cmp op_le d_le mono_int0Q ha hb (nomark _)
theorem de_gt (cy : Cy X g W) (ha : DE X g W ca a fa) (hb : DE X g W cb b fb) : DE X g W (ca + cb) (.Compare a [.Gt] [b] pos) (eOp gtQ fa fb) := de_cmp op_gt d_gt mono_int0Q ha hb (nomark _)
theorem de_ge (cy : Cy X g W) (ha : DE X g W ca a fa) (hb : DE X g W cb b fb) : DE X g W (ca + cb) (.Compare a [.GtE] [b] pos) (eOp geQ fa fb) := de_cmp op_ge d_ge mono_int0Q ha hb (nomark _)
theorem de_eq (cy : Cy X g W) (ha : DE X g W ca a fa) (hb : DE X g W cb b fb) : DE X g W (ca + cb) (.Compare a [.Eq] [b] pos) (eOp eqQ fa fb) := de_cmp (by have h := op_eqA (X := X) cy.un; rw [cy.k] at h; exact h) d_eq mono_eqlQ ha hb (nomark _)
theorem de_ne (cy : Cy X g W) (ha : DE X g W ca a fa) (hb : DE X g W cb b fb) : DE X g W (ca + cb) (.Compare a [.NotEq] [b] pos) (eOp neQ fa fb) := de_cmp (by have h := op_neA (X := X) cy.un; rw [cy.k] at h; exact h) d_ne mono_eqlQ ha hb (nomark _)
theorem de_in (cy : Cy X g W) (ha : DE X g W ca a fa) (hb : DE X g W cb b fb) (hm : behindInMarks .In b = false := by rfl) : DE X g W (ca + cb) (.Compare a [.In] [b] pos) (eOp inQ fa fb) := de_cmp (by have h := op_inA (X := X); rw [cy.k] at h; exact h) d_in mono_inlQ ha hb hm
theorem de_notin (cy : Cy X g W) (ha : DE X g W ca a fa) (hb : DE X g W cb b fb) (hm : behindInMarks .NotIn b = false := by rfl) : DE X g W (ca + cb) (.Compare a [.NotIn] [b] pos) (eOp notInQ fa fb) := de_cmp (by have h := op_notInA (X := X); rw [cy.k] at h; exact h) d_in mono_inlQ ha hb hm
theorem de_is (cy : Cy X g W) (ha : DE X g W ca a fa) (hb : DE X g W cb b fb) : DE X g W (ca + cb) (.Compare a [.Is] [b] pos) (eOp isNQ fa fb) := de_cmp op_isNA d_isN mono_isNlQ ha hb (nomark _)
theorem de_isnot (cy : Cy X g W) (ha : DE X g W ca a fa) (hb : DE X g W cb b fb) : DE X g W (ca + cb) (.Compare a [.IsNot] [b] pos) (eOp notNQ fa fb) := de_cmp op_notNA d_isN mono_isNlQ ha hb (nomark _)
theorem dt_lt (cy : Cy X g W) (ha : DE X g W ca a fa) (hb : DE X g W cb b fb) : DT X g W (ca + cb) (.Compare a [.Lt] [b] pos) (tBool (eOp ltQ fa fb)) := dt_cmp op_lt d_lt mono_int0Q ha hb (nomark _)
theorem dt_le (cy : Cy X g W) (ha : DE X g W ca a fa) (hb : DE X g W cb b fb) : DT X g W (ca + cb) (.Compare a [.LtE] [b] pos) (tBool (eOp leQ fa fb)) := dt_cmp op_le d_le mono_int0Q ha hb (nomark _)
theorem dt_gt (cy : Cy X g W) (ha : DE X g W ca a fa) (hb : DE X g W cb b fb) : DT X g W (ca + cb) (.Compare a [.Gt] [b] pos) (tBool (eOp gtQ fa fb)) := dt_cmp op_gt d_gt mono_int0Q ha hb (nomark _)
theorem dt_ge (cy : Cy X g W) (ha : DE X g W ca a fa) (hb : DE X g W cb b fb) : DT X g W (ca + cb) (.Compare a [.GtE] [b] pos) (tBool (eOp geQ fa fb)) := dt_cmp op_ge d_ge mono_int0Q ha hb (nomark _)
theorem dt_eq (cy : Cy X g W) (ha : DE X g W ca a fa) (hb : DE X g W cb b fb) : DT X g W (ca + cb) (.Compare a [.Eq] [b] pos) (tBool (eOp eqQ fa fb)) := dt_cmp (by have h := op_eqA (X := X) cy.un; rw [cy.k] at h; exact h) d_eq mono_eqlQ ha hb (nomark _)
theorem dt_ne (cy : Cy X g W) (ha : DE X g W ca a fa) (hb : DE X g W cb b fb) : DT X g W (ca + cb) (.Compare a [.NotEq] [b] pos) (tBool (eOp neQ fa fb)) := dt_cmp (by have h := op_neA (X := X) cy.un; rw [cy.k] at h; exact h) d_ne mono_eqlQ ha hb (nomark _)
theorem dt_in (cy : Cy X g W) (ha : DE X g W ca a fa) (hb : DE X g W cb b fb) (hm : behindInMarks .In b = false := by rfl) : DT X g W (ca + cb) (.Compare a [.In] [b] pos) (tBool (eOp inQ fa fb)) := dt_cmp (by have h := op_inA (X := X); rw [cy.k] at h; exact h) d_in mono_inlQ ha hb hm
theorem dt_notin (cy : Cy X g W) (ha : DE X g W ca a fa) (hb : DE X g W cb b fb) (hm : behindInMarks .NotIn b = false := by rfl) : DT X g W (ca + cb) (.Compare a [.NotIn] [b] pos) (tBool (eOp notInQ fa fb)) := dt_cmp (by have h := op_notInA (X := X); rw [cy.k] at h; exact h) d_in mono_inlQ ha hb hm
theorem dt_is (cy : Cy X g W) (ha : DE X g W ca a fa) (hb : DE X g W cb b fb) : DT X g W (ca + cb) (.Compare a [.Is] [b] pos) (tBool (eOp isNQ fa fb)) := dt_cmp op_isNA d_isN mono_isNlQ ha hb (nomark _)
theorem dt_isnot (cy : Cy X g W) (ha : DE X g W ca a fa) (hb : DE X g W cb b fb) : DT X g W (ca + cb) (.Compare a [.IsNot] [b] pos) (tBool (eOp notNQ fa fb)) := dt_cmp op_notNA d_isN mono_isNlQ ha hb (nomark _)
theorem de_item (cy : Cy X g W) (ha : DE X g W ca a fa) (hb : DE X g W cb b fb) (hs : PlainIx b := by exact fun _ _ => rfl) : DE X g W (ca + cb) (.Subscript a b pos) (eOp ixQ fa fb) := de_ix (by have h := ix_seq (X := X); rw [cy.k] at h; exact h) d_ix mono_ixQ ha hb hs
/-- -a -/
def eNeg (fa : ED) : ED := fun env Q E => fa env (fun r => match r with | .val (.int i) => Q (.val (.int (-i))) | _ => False) E
theorem de_neg (cy : Cy X g W) (ha : DE X g W ca a fa) : DE X g W ca (.UnaryOp .USub a pos) (eNeg fa) := by
  refine ⟨PEimp (pe_un un_neg ha.pe) fun σ H Q ⟨T, F, env, hT, ok, h⟩ => ?_, fun env Q Q' E E' hq he q => ha.mono env _ _ _ _ (fun r q => by
    split at q
    · exact hq _ q
    · exact q) he q⟩
  refine run_e ok (by omega) ha.mono h (fun x hx F1 H1 v w o rx => ?_) (exE.shift ok.refl (by omega))
  split at hx
  · rename_i i
    simp only [RepR, Rep] at rx
    exact ⟨i, rx, hx F1 H1 (.int (-i)) w o (by simp only [RepR, Rep])⟩
  · exact hx.elim
section
variable {fs : AD} {es : List Expr}
theorem de_len (cy : Cy X g W) (hg : Gl X "len") (hm : X.mg "len" = none) (ha : DE X g W ca a fa) (h1 : starEach [a] X.env = (false, eval a X.env) :: starEach [] X.env := by rfl) (h2 : starEach [a] X.env = (false, eval a X.env) :: starEach [] X.env := by rfl) (h3 : (backTo pos (starEach [] X.env)).any (·.1) = false := by rfl) : DE X g W (ca + 0) (.Call (.Name "len" p) [a] [] pos) (eCall lenQ (aCons fa aNil)) :=
  de_callB (by have h := call_len (X := X); rw [cy.k] at h; exact h) d_len mono_lenQ hg hm PySem.boot_len (da_cons ha da_nil h1) (by decide) (by decide) h2 h3
theorem de_abs (cy : Cy X g W) (hg : Gl X "abs") (hm : X.mg "abs" = none) (ha : DE X g W ca a fa) (h1 : starEach [a] X.env = (false, eval a X.env) :: starEach [] X.env := by rfl) (h3 : (backTo pos (starEach [] X.env)).any (·.1) = false := by rfl) : DE X g W (ca + 0) (.Call (.Name "abs" p) [a] [] pos) (eCall absQ (aCons fa aNil)) :=
  de_callB call_abs d_abs mono_absQ hg hm (by decide +kernel) (da_cons ha da_nil h1) (by decide) (by decide) h1 h3
theorem de_intf (cy : Cy X g W) (hg : Gl X "int") (hm : X.mg "int" = none) (ha : DE X g W ca a fa) (h1 : starEach [a] X.env = (false, eval a X.env) :: starEach [] X.env := by rfl) (h3 : (backTo pos (starEach [] X.env)).any (·.1) = false := by rfl) : DE X g W (ca + 0) (.Call (.Name "int" p) [a] [] pos) (eCall intOfQ (aCons fa aNil)) :=
  de_callTy call_int1 d_intOf mono_intOfQ hg hm (by decide +kernel) (da_cons ha da_nil h1) (by decide) (by decide) h1 h3
theorem de_strf (cy : Cy X g W) (hg : Gl X "str") (hm : X.mg "str" = none) (ha : DE X g W ca a fa) (h1 : starEach [a] X.env = (false, eval a X.env) :: starEach [] X.env := by rfl) (h3 : (backTo pos (starEach [] X.env)).any (·.1) = false := by rfl) : DE X g W (ca + 0) (.Call (.Name "str" p) [a] [] pos) (eCall strOfQ (aCons fa aNil)) :=
  de_callTy call_str_int d_strOf mono_strOfQ hg hm (by decide +kernel) (da_cons ha da_nil h1) (by decide) (by decide) h1 h3
theorem de_listf (cy : Cy X g W) (hg : Gl X "list") (hm : X.mg "list" = none) (ha : DE X g W ca a fa) (h1 : starEach [a] X.env = (false, eval a X.env) :: starEach [] X.env := by rfl) (h3 : (backTo pos (starEach [] X.env)).any (·.1) = false := by rfl) : DE X g W (ca + 0) (.Call (.Name "list" p) [a] [] pos) (eCall listOfQ (aCons fa aNil)) :=
  de_callTy (by have h := call_list_of (X := X); rw [cy.k] at h; exact h) d_listOf mono_listOfQ hg hm (by decide +kernel) (da_cons ha da_nil h1) (by decide) (by decide) h1 h3
theorem de_tupf (cy : Cy X g W) (hg : Gl X "tuple") (hm : X.mg "tuple" = none) (ha : DE X g W ca a fa) (h1 : starEach [a] X.env = (false, eval a X.env) :: starEach [] X.env := by rfl) (h3 : (backTo pos (starEach [] X.env)).any (·.1) = false := by rfl) : DE X g W (ca + 0) (.Call (.Name "tuple" p) [a] [] pos) (eCall tupOfQ (aCons fa aNil)) :=
  de_callTy (by have h := call_tuple_of (X := X); rw [cy.k] at h; exact h) d_tupOf mono_tupOfQ hg hm (by decide +kernel) (da_cons ha da_nil h1) (by decide) (by decide) h1 h3
theorem de_all (cy : Cy X g W) (hg : Gl X "all") (hm : X.mg "all" = none) (ha : DE X g W ca a fa) (h1 : starEach [a] X.env = (false, eval a X.env) :: starEach [] X.env := by rfl) (h3 : (backTo pos (starEach [] X.env)).any (·.1) = false := by rfl) : DE X g W (ca + 0) (.Call (.Name "all" p) [a] [] pos) (eCall (allQ false) (aCons fa aNil)) :=
  de_callB (by have h := cr_all (X := X) cy.calm; rw [cy.k] at h; exact h) d_all mono_allQ hg hm (by decide +kernel) (da_cons ha da_nil h1) (by decide) (by decide) h1 h3
theorem de_any (cy : Cy X g W) (hg : Gl X "any") (hm : X.mg "any" = none) (ha : DE X g W ca a fa) (h1 : starEach [a] X.env = (false, eval a X.env) :: starEach [] X.env := by rfl) (h3 : (backTo pos (starEach [] X.env)).any (·.1) = false := by rfl) : DE X g W (ca + 0) (.Call (.Name "any" p) [a] [] pos) (eCall (allQ true) (aCons fa aNil)) :=
  de_callB (by have h := cr_any (X := X) cy.calm; rw [cy.k] at h; exact h) d_any mono_allQ hg hm (by decide +kernel) (da_cons ha da_nil h1) (by decide) (by decide) h1 h3
theorem de_max2 (cy : Cy X g W) (hg : Gl X "max") (hm : X.mg "max" = none) (ha : DA X g W ca [a, b] fs) (h1 : starEach [a, b] X.env = (false, eval a X.env) :: starEach [b] X.env := by rfl) (h3 : (backTo pos (starEach [b] X.env)).any (·.1) = false := by rfl) : DE X g W ca (.Call (.Name "max" p) [a, b] [] pos) (eCall max2Q fs) :=
  de_callB (call_max2 cy.calm) d_max2 mono_max2Q hg hm (by decide +kernel) ha (by decide) (by decide) h1 h3
theorem de_min2 (cy : Cy X g W) (hg : Gl X "min") (hm : X.mg "min" = none) (ha : DA X g W ca [a, b] fs) (h1 : starEach [a, b] X.env = (false, eval a X.env) :: starEach [b] X.env := by rfl) (h3 : (backTo pos (starEach [b] X.env)).any (·.1) = false := by rfl) : DE X g W ca (.Call (.Name "min" p) [a, b] [] pos) (eCall min2Q fs) :=
  de_callB (call_min2 cy.calm) d_min2 mono_min2Q hg hm (by decide +kernel) ha (by decide) (by decide) h1 h3
theorem de_isi (cy : Cy X g W) (hg : Gl X "isinstance") (hm : X.mg "isinstance" = none) (ha : DA X g W ca [a, b] fs) (h1 : starEach [a, b] X.env = (false, eval a X.env) :: starEach [b] X.env := by rfl) (h3 : (backTo pos (starEach [b] X.env)).any (·.1) = false := by rfl) : DE X g W ca (.Call (.Name "isinstance" p) [a, b] [] pos) (eCall isiQ fs) :=
  de_callB (by have h := call_isi (X := X); rw [cy.k] at h; exact h) d_isi mono_isiQ hg hm (by decide +kernel) ha (by decide) (by decide) h1 h3
end
theorem ds_append (cy : Cy X g W) (i : Nat) {n : Str} {apos cpos : Pos} (ho : PE X (.Name n p) (tVar i)) (ha : DE X g W ca e fa)
    (h1 : starEach [e] X.env = (false, eval e X.env) :: starEach [] X.env := by rfl)
    (hbase : attributeBase (.Name n p) "append" X.env (eval (.Name n p) X.env) = eval (.Name n p) X.env := by rfl)
    (hfew : ((backTo cpos (starEach [e] X.env)).all (fun x => !x.1) && (backToKw cpos (keywordEach [] X.env)).all (fun x => x.1.isSome)
      && decide ([e].length + ([] : List Keyword).length + (if ([] : List Keyword).isEmpty then 0 else 1) < 30)) = true := by rfl)
    (hline : (apos.endLine == cpos.line) = true := by rfl) (hplain : (backTo cpos (starEach [] X.env)).any (·.1) = false := by rfl)
    (hsw : swapsWith (.Call (.Attribute (.Name n p) "append" apos) [e] [] cpos) none pos.line X.env = pure false := by rfl) :
    DS X g W (ca + 0) (.Expr (.Call (.Attribute (.Name n p) "append" apos) [e] [] cpos) pos) (sMut i appQ (aCons fa aNil)) :=
  ds_mut cy i PySem.F.plainAttrs_list PySem.F.slot_list_append PySem.F.type_list_append mt_append d_append mono_appQ ho (da_cons ha da_nil h1) hbase hfew hline h1 hplain hsw
theorem ds_insert (cy : Cy X g W) (i : Nat) {n : Str} {apos cpos : Pos} {fs : AD} (ho : PE X (.Name n p) (tVar i)) (ha : DA X g W ca [a, b] fs)
    (h1 : starEach [a, b] X.env = (false, eval a X.env) :: starEach [b] X.env := by rfl)
    (hbase : attributeBase (.Name n p) "insert" X.env (eval (.Name n p) X.env) = eval (.Name n p) X.env := by rfl)
    (hfew : ((backTo cpos (starEach [a, b] X.env)).all (fun x => !x.1) && (backToKw cpos (keywordEach [] X.env)).all (fun x => x.1.isSome)
      && decide ([a, b].length + ([] : List Keyword).length + (if ([] : List Keyword).isEmpty then 0 else 1) < 30)) = true := by rfl)
    (hline : (apos.endLine == cpos.line) = true := by rfl) (hplain : (backTo cpos (starEach [b] X.env)).any (·.1) = false := by rfl)
    (hsw : swapsWith (.Call (.Attribute (.Name n p) "insert" apos) [a, b] [] cpos) none pos.line X.env = pure false := by rfl) :
    DS X g W ca (.Expr (.Call (.Attribute (.Name n p) "insert" apos) [a, b] [] cpos) pos) (sMut i insQ fs) :=
  ds_mut cy i PySem.F.plainAttrs_list PySem.F.slot_list_insert PySem.F.type_list_insert mt_insert d_insert mono_insQ ho ha hbase hfew hline h1 hplain hsw
theorem ds_store (i : Nat) {n : Str} {fk fe : ED} (hk : DE X g W ca a fk) (he : DE X g W cb e fe) (ho : PE X (.Name n p) (tVar i))
    (ha : ∀ v, assign (.Subscript (.Name n p) a p2) X.env v = (do
      let ov ← holding [v] (eval (.Name n p) X.env)
      let iv ← holding [v, ov] (eval a X.env)
      standAt p2
      holding [v, ov, iv] (setItem ov iv v)
      release [v, ov, iv] []) := by intro _; rfl) (hs : swapsWithSole [.Subscript (.Name n p) a p2] e pos.line X.env = pure false := by rfl) (hw : swappedStores [.Subscript (.Name n p) a p2] e X.env = pure none := by rfl) (hh : (assignEach [.Subscript (.Name n p) a p2] X.env).map (·.2) = [assign (.Subscript (.Name n p) a p2) X.env] := by rfl) :
    DS X g W (cb + ca) (.Assign [.Subscript (.Name n p) a p2] e pos) (sSetIx i fk fe) := ds_setIx i hk he ho (pg_own i hk ho ha) hs hw hh
end
/-- what a draw promises -/
def takeF : FD := fun rs Q _ => ∃ n : Int, rs = [.sto, .val (.int n)] ∧ n < 1073741824 ∧ ∀ r : Int, 0 ≤ r → (n < 2 → r = 0) → (2 ≤ n → r < n) → Q (.val (.int r))
theorem mono_takeF : MonoF takeF := fun rs Q Q' E E' hq he ⟨n, h1, h2, h3⟩ => ⟨n, h1, h2, fun r a b c => hq _ (h3 r a b c)⟩
end DL

namespace DL
open PySem PySem.Spec L2
theorem forW_inv {b : BD} {fb : SD} {A : DEn} {items : List D} (I : Nat → En → Prop)
    (hs : ∀ i d env (N : En → Prop), items[i]? = some d → I i env → (∀ e, I (i + 1) e → N e) → b d env (fun env1 => fb { A with nx := N, ct := N, bk := A.nx } env1))
    (hd : ∀ env, I items.length env → A.nx env) : ∀ env, I 0 env → forW b fb A items env := by
  have key : ∀ (n i : Nat) env, items.length - i = n → i ≤ items.length → I i env → forW b fb A (items.drop i) env := by
    intro n
    induction n with
    | zero =>
      intro i env h hi hI
      have e : i = items.length := by omega
      subst e
      rw [List.drop_length]
      exact hd env hI
    | succ n ih =>
      intro i env h hi hI
      have hlt : i < items.length := by omega
      rw [List.drop_eq_getElem_cons hlt]
      exact hs i _ env _ (List.getElem?_eq_getElem hlt) hI fun e he => ih (i + 1) e (by omega) hlt he
  intro env h
  exact key items.length 0 env rfl (Nat.zero_le _) h
/-- a comprehension that maps and filters -/
theorem lcW_map {b : BD} {ft : TD} {fe : ED} {env0 : En} {Q : List D → Prop} (p : D → Bool) (f : D → D) : ∀ (ds acc : List D),
    (∀ d ∈ ds, ∀ (Y : D → Prop) (N : Prop), (p d = true → Y (f d)) → (p d = false → N) → b d env0 (fun env1 => ft env1 (fun t => if t = true then frz fe env1 (fun r => ∃ e, r = .val e ∧ Y e) (fun _ => False) else N) (fun _ => False))) →
    Q (acc ++ (ds.filter p).map f) → lcW b ft fe env0 Q ds acc
  | [], acc, _, h => by simpa [lcW] using h
  | d :: ds, acc, hs, h => by
    refine hs d List.mem_cons_self _ _ (fun hp => ?_) (fun hp => ?_)
    · refine lcW_map p f ds _ (fun d' m => hs d' (List.mem_cons_of_mem _ m)) ?_
      rw [List.filter_cons_of_pos hp] at h
      simpa using h
    · refine lcW_map p f ds _ (fun d' m => hs d' (List.mem_cons_of_mem _ m)) ?_
      rw [List.filter_cons_of_neg (by simp [hp])] at h
      exact h
/-- a comprehension of draws -/
theorem lcW_draw {b : BD} {ft : TD} {fe : ED} {env0 : En} {Q : List D → Prop} (R : D → D → Prop) : ∀ (ds acc : List D),
    (∀ d ∈ ds, ∀ (Y : D → Prop) (N : Prop), (∀ e, R d e → Y e) → b d env0 (fun env1 => ft env1 (fun t => if t = true then frz fe env1 (fun r => ∃ e, r = .val e ∧ Y e) (fun _ => False) else N) (fun _ => False))) →
    (∀ es : List D, es.length = ds.length → (∀ (i : Nat) d e, ds[i]? = some d → es[i]? = some e → R d e) → Q (acc ++ es)) → lcW b ft fe env0 Q ds acc
  | [], acc, _, h => by simpa [lcW] using h [] rfl (by simp)
  | d :: ds, acc, hs, h => by
    refine hs d List.mem_cons_self _ _ (fun e he => ?_)
    refine lcW_draw R ds _ (fun d' m => hs d' (List.mem_cons_of_mem _ m)) fun es hl hr => ?_
    have q := h (e :: es) (by simp [hl]) (fun i d' e' h1 h2 => by
      cases i with
      | zero =>
        simp at h1 h2
        subst h1; subst h2
        exact he
      | succ i => exact hr i d' e' (by simpa using h1) (by simpa using h2))
    simpa using q
/-! ### the draws' own reading, by hand -/
section
variable {K : PySem.W.Frag} {st : Addr} {F H : Hp}
/-- the store's five places -/
structure Sto (K : PySem.W.Frag) (st : Addr) (F H : Hp) (c : Addr) (ns : List Int) (i r sd t : Int) : Prop where
  at' : H st = some (.lst [.ref c, .int i, .int r, .int sd, .int t])
  free : F st = none
  cells : ∃ o : Obj, F c = some (.frz o (.lst (ns.map V.int)))
  few : ns.length ≤ 63
  i0 : 0 ≤ i
  r0 : 0 ≤ r
  s0 : 0 ≤ sd
  s1 : sd < 2147483648
  t0 : 0 ≤ t
theorem Sto.of {T : Nat} (h : StoreAt K st T F H) : ∃ c ns i r sd t, Sto K st F H c ns i r sd t := by
  obtain ⟨c, ns, i, r, sd, t, h1, h2, h3, h4, h5, h6, h7, h8⟩ := h.at'
  exact ⟨c, ns, i, r, sd, t, h1, h.free, h2, h3, h4, h5, h6, h7, h8⟩
theorem Sto.store {c : Addr} {ns : List Int} {i r sd t : Int} {T : Nat} (h : Sto K st F H c ns i r sd t) : StoreAt K st T F H := ⟨h.free, c, ns, i, r, sd, t, h.at', h.cells, h.few, h.i0, h.r0, h.s0, h.s1, h.t0⟩
theorem Sto.sq {c : Addr} {ns : List Int} {i r sd t : Int} (h : Sto K st F H c ns i r sd t) : SqL K F c (ns.map V.int) := .inl (.inr h.cells)
/-- the store changes -/
theorem Sto.put {c : Addr} {ns : List Int} {i r sd t i' r' sd' t' : Int} (h : Sto K st F H c ns i r sd t) (h1 : 0 ≤ i') (h2 : 0 ≤ r') (h3 : 0 ≤ sd') (h4 : sd' < 2147483648) (h5 : 0 ≤ t') :
    Sto K st F (upd H st (.lst [.ref c, .int i', .int r', .int sd', .int t'])) c ns i' r' sd' t' := ⟨upd_same, h.free, h.cells, h.few, h1, h2, h3, h4, h5⟩
theorem Grow.put {F0 H0 : Hp} {o : HO} (g : Grow st F0 H0 F H) : Grow st F0 H0 F (upd H st o) :=
  ⟨g.ff, fun b x e => by rw [upd_ne (ne_of_none e g.sf)]; exact g.fh b x e, fun b x n e => by rw [upd_ne n]; exact g.hh b x n e, g.nf, g.sf⟩
end
def mixedF : FD := fun rs Q _ => ∃ a t : Int, rs = [.val (.int a), .val (.int t)] ∧ ∀ r : Int, 0 ≤ r → r < 2147483399 → Q (.val (.int r))
theorem mono_mixedF : MonoF mixedF := fun rs Q Q' E E' hq he ⟨n, t, h1, h3⟩ => ⟨n, t, h1, fun r a b => hq _ (h3 r a b)⟩
end DL

namespace DL
open PySem PySem.Spec L2
section
variable {X : Cx} {g : G} {W : WX} {ca cb cc k n : Nat} {f : Addr} {fd : FuncData} {ps ks : List Str} {fn : FD} {fa : ED} {fs : AD} {x : Str} {p pos kpos : Pos} {e : Expr} {es : List Expr} {kws : List Keyword} {nm : Option Str}
/-! ### a call without arguments, of a def that raises nothing -/
def eFn0 (fn : FD) : ED := fun env Q E => app fn [] Q (fun _ => False)
theorem passesF (X : Cx) : Passes (L2.CX X.prog X.w) X (fun _ _ _ => False) := fun pins σ H s e s' I c => by
  exact (Takes.imp (W := fun _ _ _ _ => False) (W' := fun _ _ _ _ => False) (fun u s' ⟨a, B, sI, pins, σ, H, cls, d, e, I, nb, up, sky, na, os, ag, w⟩ => w.elim) (fun _ _ _ _ h => h)) e s' (XE.of_call I (fun _ _ _ h => h) c)
theorem de_call0 (cy : Cy X g W) (Fn : FnOk X.prog X.w X.K X.mg X.base (L2.CX X.prog X.w) k f fd [] (spD X.K 0 fn)) (mf : MonoF fn) (hr : Room k X.A) (hg : Gl X x) (hm : X.mg x = some (.ref f)) (hk : PySem.W.keepIn X.K (.ref f) = true) (hb : L2.Binds X.K fd [] [])
    (hdb : (x == ("__debug__" : Str)) = false := by decide) : DE X g W 0 (.Call (.Name x p) [] [] pos) (eFn0 fn) := by
  refine ⟨PEimp (pe_call0 Fn hr hg hm hk hb .nil (passesF X) hdb) fun σ H Q ⟨T, F, env, hT, ok, h⟩ => ?_, fun env Q Q' E E' hq he h => mf _ _ _ _ _ hq (fun _ h => h) h⟩
  show spD X.K 0 fn ([] ++ []) H Q (fun _ _ _ => False)
  rw [cy.k]
  refine ⟨g.st, F, [], rfl, ok.sto.any, ok.fh, rfl, mf _ _ _ _ _ (fun r q F' H' v w s2 r2 => ?_) (fun x q => q.elim) h⟩
  refine q F' H' v w (ok.grown w s2.any) ?_
  cases r with
  | val d => exact r2
  | sto => exact r2
  | bor ys => exact r2.elim
  | own ys =>
    obtain ⟨a, rfl, n1, n2, n3, n4⟩ := r2
    exact ⟨a, rfl, ⟨n1, n2, n3, n4⟩, ok.notOwn n2⟩
/-! ### keywords alone -/
structure DK (X : Cx) (g : G) (W : WX) (c : Nat) (kws : List Keyword) (f : AD) : Prop where
  pk : PK X kws (tDA g W c f)
  mono : MonoE f
theorem PKimp {t t' : TA} (h : PK X kws t) (i : ∀ σ H Q, t' σ H Q → t σ H Q) : PK X kws t' := ⟨fun pos pins s σ H Q I q => h.run pos pins s σ H Q I (i σ H Q q)⟩
theorem dk_nil : DK X g W 0 [] aNil := ⟨PKimp pk_nil fun σ H Q ⟨T, F, env, hT, ok, h⟩ => h F H [] ok.refl ok rfl, fun env Q Q' E E' hq he q => hq _ q⟩
theorem dk_cons {fr : AD} (ha : DE X g W ca e fa) (hr : DK X g W cb kws fr) : DK X g W (ca + cb) (⟨nm, e, kpos⟩ :: kws) (aCons fa fr) := by
  refine ⟨PKimp (pk_cons ha.frz.pe hr.pk) fun σ H Q ⟨T, F, env, hT, ok, h⟩ => ?_, fun env Q Q' E E' hq he h => ha.frz.mono env _ _ _ _ (fun x hx => hr.mono env _ _ _ _ (fun y hy => hq _ hy) he hx) he h⟩
  refine run_e ok (by omega) ha.frz.mono h (fun x hx F1 H1 v w o rx => ?_) (exE.shift ok.refl (by omega))
  refine run_a o (by omega) hr.mono hx (fun y hy F2 H2 v2 w2 o2 ry => ?_) (exE.shift w (by omega))
  exact hy F2 H2 (v :: v2) (w.trans w2) (by rw [← Nat.add_assoc]; exact o2) ⟨v, v2, rfl, rx.grow w2, ry.since w⟩
/-- how keywords alone come to the parameters -/
structure KB (K : PySem.W.Frag) (fd : FuncData) (ps ks : List Str) (pm : {α : Type} → List α → List α) : Prop where
  to : ∀ (s : Shared) (ws : List Value), ws.length = ks.length → BindsTo s fd ⟨[], ks.zip ws⟩ (ps.zip (pm ws))
  rel : ∀ {vs : List V} {ws : List Value}, vs.length = ks.length → Vals vs ws → Vals (pm vs) (pm ws)
  arg : ∀ {st : Addr} {F : Hp} {rs : List RV} {vs : List V}, rs.length = ks.length → ArgR K st F rs vs → ArgR K st F (pm rs) (pm vs)
def eFnK (n : Nat) (pm : {α : Type} → List α → List α) (fn : FD) (fa : AD) : ED := fun env Q E => fa env (fun rs => rs.length = n ∧ (pm rs).length = n ∧ (∀ r ∈ rs, argOk r) ∧ app fn (pm rs) Q E) E
open PyProof.Rows in
theorem de_callK (cy : Cy X g W) {pm : {α : Type} → List α → List α} (Fn : FnOk X.prog X.w X.K X.mg X.base (L2.CX X.prog X.w) k f fd ps (spD X.K ks.length fn)) (mf : MonoF fn) (hr : Room k X.A) (hg : Gl X x) (hm : X.mg x = some (.ref f)) (hk : PySem.W.keepIn X.K (.ref f) = true) (hb : KB X.K fd ps ks pm)
    (ha : DK X g W ca kws fs) (hall : (backToKw pos (keywordEach kws X.env)).all (·.1.isSome) = true := by rfl) (hks : (backToKw pos (keywordEach kws X.env)).filterMap (·.1) = ks := by rfl) (hdb : (x == ("__debug__" : Str)) = false := by decide)
    (hpl : ((backTo pos (starEach [] X.env)).any (·.1) || (backToKw pos (keywordEach kws X.env)).any (·.1.isNone)) = false := by rfl) :
    DE X g W ca (.Call (.Name x p) [] kws pos) (eFnK ks.length pm fn fs) := by
  refine ⟨⟨fun pins s σ H Q I h => ?_⟩, fun env Q Q' E E' hq he h => ha.mono env _ _ _ _ (fun rs q => ⟨q.1, q.2.1, q.2.2.1, mf _ _ _ _ _ hq he q.2.2.2⟩) he h⟩
  obtain ⟨T, F, env, hT, ok, h⟩ := h
  refine wpAny_Call_Name_kw (ld_glob I hg hm ?_ hdb)
  refine PySem.W.callWith_KW0 (h₀ := X.base) I.ok.mod.kin hk hall (thn (ha.pk.run pos pins s σ H (fun vs H1 => ∃ F1 rs, Grow g.st F H F1 H1 ∧ Ok g (T + ca) F1 env σ H1 ∧ RepRs g H F1 H1 env σ rs vs ∧ rs.length = ks.length ∧ (pm rs).length = ks.length ∧ (∀ r ∈ rs, argOk r) ∧ fn (pm rs) (okE g T ca F env σ H Q) (exE g T ca F env σ H W)) I ?_) fun ws s1 hh => ?_) hpl
  · exact ⟨T, F, env, hT, ok, ha.mono env _ _ _ _ (fun rs q F1 H1 vs w o rr => ⟨F1, rs, w, o, rr, q.1, q.2.1, q.2.2.1, q.2.2.2⟩) (fun x e => e) h⟩
  · obtain ⟨vs, H1, I1, rv, F1, rs, w, o, rr, hl, hl2, hv, q⟩ := hh
    rw [hks]
    have ar := argR_of hv rr
    have hvl := ar.length
    have ar2 := hb.arg hl (by rw [cy.k]; exact ar)
    refine ⟨I1.kIn, ?_⟩
    refine wpAny_call (codeAny_mono (Fn.run X.A X.stack s1 H1 ⟨[], ks.zip ws⟩ (pm ws) (pm vs) Q (WE W σ) hr I1.env0 (hb.to s1 ws (by rw [← rv.length, hvl, hl])) (hb.rel (by rw [hvl, hl]) rv) ?_) fun r s' hq => ?_)
    · rw [cy.k] at ar2 ⊢
      refine ⟨g.st, F1, pm rs, hl2, o.sto.any, o.fh, ar2, mf _ _ _ _ _ (fun r q F' H' v w2 s2 r2 => ?_) (fun x q F' H' d w2 s2 rx => ?_) q⟩
      · refine q F' H' v (w.trans w2) (o.grown w2 s2.any) ?_
        cases r with
        | val d => exact r2
        | sto => exact r2
        | bor ys => exact r2.elim
        | own ys =>
          obtain ⟨a, rfl, n1, n2, n3, n4⟩ := r2
          have oa : OwnAt g H1 F' H' a ys := ⟨n1, n2, n3, n4⟩
          exact ⟨a, rfl, oa.since w, o.notOwn n2⟩
      · exact q F' H' d (w.trans w2) (o.grown w2 s2.any) rx
    · cases r with
      | error e => exact passAt cy.tk σ pins H1 s1 e s' I1 hq
      | ok fl =>
        cases fl with
        | ret u => exact I1.after hq
        | next => exact False.elim hq
        | brk => exact False.elim hq
        | cont => exact False.elim hq
end
end DL

namespace DL
open PySem PySem.Spec L2
def strsOf : List D → Option (List Str)
  | [] => some []
  | .str s :: ds => (strsOf ds).map (s :: ·)
  | _ => none
theorem strsOf_map : ∀ (ss : List Str), strsOf (ss.map D.str) = some ss
  | [] => rfl
  | s :: ss => by simp only [List.map_cons, strsOf, strsOf_map ss, Option.map_some]
theorem strsOf_eq : ∀ {ds : List D} {ss : List Str}, strsOf ds = some ss → ds = ss.map D.str
  | [], _, h => by simp only [strsOf, Option.some.injEq] at h; subst h; rfl
  | d :: ds, _, h => by
    unfold strsOf at h
    split at h
    · rename_i e; cases e
    · rename_i s ds' e
      cases e
      cases e2 : strsOf ds with
      | none => rw [e2] at h; cases h
      | some ss =>
        rw [e2] at h
        simp only [Option.map_some, Option.some.injEq] at h
        subst h
        rw [strsOf_eq e2]
        rfl
    · cases h
section
variable {X : Cx} {g : G} {W : WX} {ca cb : Nat} {fa fb : ED} {a e : Expr} {pos apos : Pos}
/-- sep.join(list of texts) -/
def eJoin (fa fb : ED) : ED := fun env Q E => fa env (fun x => ∃ a, x = .val (.str a) ∧ frz fb env (fun y => ∃ ds ss, asSeq y = some ds ∧ strsOf ds = some ss ∧ (ss.map (·.length)).sum + ss.length * a.length ≤ LIM ∧ Q (.val (.str (Txt.join a ss)))) E) E
theorem de_join (cy : Cy X g W) (ha : DE X g W ca a fa) (hb : DE X g W cb e fb) (hs : starEach [e] X.env = [(false, eval e X.env)] := by rfl) (hbase : attributeBase a "join" X.env (eval a X.env) = eval a X.env := by rfl) (hline : (apos.endLine == pos.line) = true := by rfl) :
    DE X g W (ca + cb) (.Call (.Attribute a "join" apos) [e] [] pos) (eJoin fa fb) := by
  have hp := pe_join (apos := apos) (pos := pos) ha.pe hb.frz.pe hs hbase hline
  rw [cy.k] at hp
  refine ⟨PEimp hp fun σ H Q ⟨T, F, env, hT, ok, h⟩ => ?_, fun env Q Q' E E' hq he h => ha.mono env _ _ _ _ (fun x hx => ?_) he h⟩
  · refine run_e ok (by omega) ha.mono h (fun x hx F1 H1 v w o rx => ?_) (exE.shift ok.refl (by omega))
    obtain ⟨a, rfl, q⟩ := hx
    simp only [RepR, Rep] at rx
    subst rx
    refine ⟨⟨a, rfl⟩, run_e o (by omega) hb.frz.mono q (fun y hy F2 H2 v2 w2 o2 ry => ?_) (exE.shift w (by omega))⟩
    obtain ⟨ds, ss, h1, h2, h3, q⟩ := hy
    obtain ⟨p, us, rfl, h4, h5⟩ := asSeq_rep o2 h1 ry
    have e := strsOf_eq h2
    subst e
    have e2 := repL_strs.mp h5
    subst e2
    exact ⟨a, p, ss, rfl, rfl, h4, Nat.le_trans h3 (by decide), q F2 H2 _ (w.trans w2) (by rw [← Nat.add_assoc]; exact o2) (by simp only [RepR, Rep])⟩
  · obtain ⟨a, h0, q⟩ := hx
    refine ⟨a, h0, hb.frz.mono env _ _ _ _ (fun y hy => ?_) he q⟩
    obtain ⟨ds, ss, h1, h2, h3, q⟩ := hy
    exact ⟨ds, ss, h1, h2, h3, hq _ q⟩
def eUpper (fa : ED) : ED := fun env Q E => fa env (fun x => ∃ a, x = .val (.str a) ∧ a.length ≤ LIM ∧ Q (.val (.str (Txt.upper a)))) E
theorem de_upper (ha : DE X g W ca a fa) (hbase : attributeBase a "upper" X.env (eval a X.env) = eval a X.env := by rfl) (hline : (apos.endLine == pos.line) = true := by rfl) :
    DE X g W ca (.Call (.Attribute a "upper" apos) [] [] pos) (eUpper fa) := by
  refine ⟨PEimp (pe_upper (apos := apos) (pos := pos) ha.pe hbase hline) fun σ H Q ⟨T, F, env, hT, ok, h⟩ => ?_, fun env Q Q' E E' hq he h => ha.mono env _ _ _ _ (fun x hx => ?_) he h⟩
  · refine run_e ok (by omega) ha.mono h (fun x hx F1 H1 v w o rx => ?_) (exE.shift ok.refl (by omega))
    obtain ⟨a, rfl, hl, q⟩ := hx
    simp only [RepR, Rep] at rx
    subst rx
    exact ⟨⟨a, rfl⟩, a, rfl, rfl, Nat.le_trans hl (by decide), q F1 H1 _ w o (by simp only [RepR, Rep])⟩
  · obtain ⟨a, h0, h1, q⟩ := hx
    exact ⟨a, h0, h1, hq _ q⟩
/-! ### lengths -/
theorem len_add (a b : Str) : (a ++ b).length = a.length + b.length := by
  show (a.cps ++ b.cps).size = a.cps.size + b.cps.size
  exact Array.size_append
theorem join_len (a : Str) (ss : List Str) : (Txt.join a ss).length ≤ (ss.map (·.length)).sum + ss.length * a.length := by
  show (Builtin.Str.glued a ss).length ≤ _
  rw [PySem.StrLaws.glued_eq_join]
  exact PySem.StrLaws.join_length_le a ss
theorem cutS_len (s : Str) (lo hi : Option Int) : (cutS s lo hi).length ≤ s.length := by
  show (cutS s lo hi).cps.size ≤ s.cps.size
  unfold cutS
  simp only [List.size_toArray, List.length_take, List.length_drop, Array.length_toList]
  omega
theorem cutS_to (s : Str) (n : Nat) : (cutS s none (some (n : Int))).length ≤ n := by
  show (cutS s none (some (n : Int))).cps.size ≤ n
  unfold cutS
  simp only [List.size_toArray, List.length_take, List.length_drop, Array.length_toList, HT.sIx_none, HT.sIx_nat]
  omega
theorem cmul_r {i j : Int} (h1 : -(2 ^ 64) < j) (h2 : j < 2 ^ 64) : CMul i j := .inr ⟨h1, h2⟩
theorem cmul_l {i j : Int} (h1 : -(2 ^ 64) < i) (h2 : i < 2 ^ 64) : CMul i j := .inl ⟨h1, h2⟩
end
end DL

namespace DL
open PySem PySem.Spec L2
/-! ### the readings, from the head -/
section
variable {env : En} {Q : RV → Prop} {E : Exc → Prop} {fa fb fc : ED} {ta tb : TD} {sa sb : SD} {A : DEn} {i j : Int} {n : Nat} {s t : Str} {b c : Bool} {d e : D} {xs ys ds : List D} {r x y : RV} {rs : List RV} {fs : AD} {B : Bool → Prop}
def varK (o : Option (Option SV)) (Q : RV → Prop) (_u : Fx Q := ()) : Prop := match o with
  | some (some (.val d)) => Q (.val d)
  | some (some (.own xs)) => Q (.bor xs)
  | some (some .sto) => Q .sto
  | _ => False
theorem W_var : eVar n env Q E = varK (env[n]?) Q := rfl
theorem W_var1 : varK (some (some (.val d))) Q = Q (.val d) := rfl
theorem W_var2 : varK (some (some (.own xs))) Q = Q (.bor xs) := rfl
theorem W_var3 : varK (some (some .sto)) Q = Q .sto := rfl
theorem W_c : eC d env Q E = Q (.val d) := rfl
def frzK (Q : RV → Prop) : RV → Prop := fun r => match r with | .own xs => Q (.val (.lst xs)) | r => Q r
theorem W_frz : frz fa env Q E = fa env (frzK Q) E := rfl
theorem W_frz1 : frzK Q (.val d) = Q (.val d) := rfl
theorem W_frz2 : frzK Q (.own xs) = Q (.val (.lst xs)) := rfl
theorem W_frz3 : frzK Q (.bor xs) = Q (.bor xs) := rfl
theorem W_frz4 : frzK Q .sto = Q .sto := rfl
theorem W_op {q : Q2} : eOp q fa fb env Q E = frz fa env (fun x => frz fb env (fun y => q x y Q) E) E := rfl
theorem W_call {q : QC} : eCall q fs env Q E = fs env (fun xs => q xs Q) E := rfl
theorem W_fn {fn : FD} : eFn n fn fs env Q E = fs env (fun rs => rs.length = n ∧ (∀ r ∈ rs, argOk r) ∧ app fn rs Q E) E := rfl
theorem W_fn0 {fn : FD} : eFn0 fn env Q E = app fn [] Q (fun _ => False) := rfl
theorem W_fnK {fn : FD} {pm : {α : Type} → List α → List α} : eFnK n pm fn fs env Q E = fs env (fun rs => rs.length = n ∧ (pm rs).length = n ∧ (∀ r ∈ rs, argOk r) ∧ app fn (pm rs) Q E) E := rfl
theorem W_nil {P : List RV → Prop} : aNil env P E = P [] := rfl
theorem W_cons {fr : AD} {P : List RV → Prop} : aCons fa fr env P E = frz fa env (fun x => fr env (fun xs => P (x :: xs)) E) E := rfl
/-- + -/
theorem W_add1 : addQ (.val (.int i)) (.val (.int j)) Q = Q (.val (.int (i + j))) := rfl
theorem W_add2 : addQ (.val (.str s)) (.val (.str t)) Q = (s.length + t.length ≤ LIM ∧ Q (.val (.str (s ++ t)))) := rfl
theorem W_add3 : addQ (.val (.tup xs)) (.val (.tup ys)) Q = (xs.length + ys.length ≤ LIM ∧ Q (.val (.tup (xs ++ ys)))) := rfl
theorem W_add4 : addQ (.val (.lst xs)) (.val (.lst ys)) Q = (xs.length + ys.length ≤ LIM ∧ Q (.own (xs ++ ys))) := propext ⟨fun ⟨_, _, h1, h2, h3, h4⟩ => by cases h1; cases h2; exact ⟨h3, h4⟩, fun ⟨h3, h4⟩ => ⟨_, _, rfl, rfl, h3, h4⟩⟩
theorem W_add5 : addQ (.bor xs) (.val (.lst ys)) Q = (xs.length + ys.length ≤ LIM ∧ Q (.own (xs ++ ys))) := propext ⟨fun ⟨_, _, h1, h2, h3, h4⟩ => by cases h1; cases h2; exact ⟨h3, h4⟩, fun ⟨h3, h4⟩ => ⟨_, _, rfl, rfl, h3, h4⟩⟩
theorem W_add6 : addQ (.val (.lst xs)) (.bor ys) Q = (xs.length + ys.length ≤ LIM ∧ Q (.own (xs ++ ys))) := propext ⟨fun ⟨_, _, h1, h2, h3, h4⟩ => by cases h1; cases h2; exact ⟨h3, h4⟩, fun ⟨h3, h4⟩ => ⟨_, _, rfl, rfl, h3, h4⟩⟩
theorem W_add7 : addQ (.bor xs) (.bor ys) Q = (xs.length + ys.length ≤ LIM ∧ Q (.own (xs ++ ys))) := propext ⟨fun ⟨_, _, h1, h2, h3, h4⟩ => by cases h1; cases h2; exact ⟨h3, h4⟩, fun ⟨h3, h4⟩ => ⟨_, _, rfl, rfl, h3, h4⟩⟩
theorem W_int {C : Int → Int → Prop} {f : Int → Int → D} : intQ C f (.val (.int i)) (.val (.int j)) Q = (C i j ∧ Q (.val (f i j))) := rfl
theorem W_int0 {f : Int → Int → D} : int0Q f (.val (.int i)) (.val (.int j)) Q = Q (.val (f i j)) := rfl
theorem W_mul1 : mulQ (.val (.int i)) (.val (.int j)) Q = (CMul i j ∧ Q (.val (.int (i * j)))) := rfl
theorem W_mul2 : mulQ (.val (.str s)) (.val (.int i)) Q = ((0 ≤ i ∧ i ≤ 100000 ∧ s.length * i.toNat ≤ 100000) ∧ Q (.val (.str (repS s i.toNat)))) := rfl
theorem W_eq1 : eqlQ false (.val (.int i)) (.val (.int j)) Q = Q (.val (.bl (decide (i = j)))) := rfl
theorem W_eq2 : eqlQ false (.val (.str s)) (.val (.str t)) Q = Q (.val (.bl (decide (s = t)))) := rfl
theorem W_eq3 : eqlQ false (.val (.bl b)) (.val (.bl c)) Q = Q (.val (.bl (decide (b = c)))) := rfl
theorem W_eq4 : eqlQ false (.val .non) (.val .non) Q = Q (.val (.bl true)) := rfl
theorem W_ne1 : eqlQ true (.val (.int i)) (.val (.int j)) Q = Q (.val (.bl (!decide (i = j)))) := rfl
theorem W_ne2 : eqlQ true (.val (.str s)) (.val (.str t)) Q = Q (.val (.bl (!decide (s = t)))) := rfl
theorem W_ne3 : eqlQ true (.val (.bl b)) (.val (.bl c)) Q = Q (.val (.bl (!decide (b = c)))) := rfl
theorem W_in1 {k : Nat} : inlQ false (.val (.str ⟨#[k]⟩)) (.val (.str t)) Q = Q (.val (.bl (decide (k ∈ t.cps.toList)))) := propext ⟨fun ⟨_, h1, h2⟩ => by cases h1; exact h2, fun h => ⟨_, rfl, h⟩⟩
theorem W_in2 {k : Nat} : inlQ true (.val (.str ⟨#[k]⟩)) (.val (.str t)) Q = Q (.val (.bl (!decide (k ∈ t.cps.toList)))) := propext ⟨fun ⟨_, h1, h2⟩ => by cases h1; exact h2, fun h => ⟨_, rfl, h⟩⟩
/-- in, of a sequence -/
def inK (neg : Bool) (d : D) (ds : List D) (Q : RV → Prop) (_u : Fx Q := ()) : Prop := ∃ v ws, flat d = some v ∧ flats ds = some ws ∧ Q (.val (.bl (if neg then !inV v ws else inV v ws)))
theorem W_in3 {g : Bool} : inlQ g (.val d) (.val (.lst ds)) Q = inK g d ds Q := propext ⟨fun ⟨_, v, _, ws, h1, h2, h3, h4, q⟩ => by cases h1; cases h3; exact ⟨v, ws, h2, h4, q⟩, fun ⟨v, ws, h2, h4, q⟩ => ⟨_, v, _, ws, rfl, h2, rfl, h4, q⟩⟩
theorem W_in4 {g : Bool} : inlQ g (.val d) (.val (.tup ds)) Q = inK g d ds Q := propext ⟨fun ⟨_, v, _, ws, h1, h2, h3, h4, q⟩ => by cases h1; cases h3; exact ⟨v, ws, h2, h4, q⟩, fun ⟨v, ws, h2, h4, q⟩ => ⟨_, v, _, ws, rfl, h2, rfl, h4, q⟩⟩
theorem W_in5 {g : Bool} : inlQ g (.val d) (.bor ds) Q = inK g d ds Q := propext ⟨fun ⟨_, v, _, ws, h1, h2, h3, h4, q⟩ => by cases h1; cases h3; exact ⟨v, ws, h2, h4, q⟩, fun ⟨v, ws, h2, h4, q⟩ => ⟨_, v, _, ws, rfl, h2, rfl, h4, q⟩⟩
theorem W_is1 : isNlQ false (.val d) (.val .non) Q = Q (.val (.bl (isNonD d))) := propext ⟨fun h => h.2, fun h => ⟨rfl, h⟩⟩
theorem W_is2 : isNlQ true (.val d) (.val .non) Q = Q (.val (.bl (!isNonD d))) := propext ⟨fun h => h.2, fun h => ⟨rfl, h⟩⟩
/-- an item -/
def atK (o : Option D) (Q : RV → Prop) (_u : Fx Q := ()) : Prop := ∃ d, o = some d ∧ Q (.val d)
theorem W_at : atK (some d) Q = Q (.val d) := propext ⟨fun ⟨_, h, q⟩ => by cases h; exact q, fun q => ⟨_, rfl, q⟩⟩
def atS (o : Option Nat) (Q : RV → Prop) (_u : Fx Q := ()) : Prop := ∃ c, o = some c ∧ Q (.val (.str ⟨#[c]⟩))
theorem W_atS {c : Nat} : atS (some c) Q = Q (.val (.str ⟨#[c]⟩)) := propext ⟨fun ⟨_, h, q⟩ => by cases h; exact q, fun q => ⟨_, rfl, q⟩⟩
theorem W_ix1 : ixQ (.val (.str s)) (.val (.int i)) Q = (s.length ≤ LIM ∧ atS (atI s.cps.toList i) Q) := propext ⟨fun ⟨_, h, c, h1, h2, q⟩ => by cases h; exact ⟨h1, c, h2, q⟩, fun ⟨h1, c, h2, q⟩ => ⟨_, rfl, c, h1, h2, q⟩⟩
theorem W_ix2 : ixQ (.val (.tup ds)) (.val (.int i)) Q = atK (atI ds i) Q := propext ⟨fun ⟨_, h, _, d, h1, h2, q⟩ => by cases h; cases h1; exact ⟨d, h2, q⟩, fun ⟨d, h2, q⟩ => ⟨_, rfl, _, d, rfl, h2, q⟩⟩
theorem W_ix3 : ixQ (.val (.lst ds)) (.val (.int i)) Q = atK (atI ds i) Q := propext ⟨fun ⟨_, h, _, d, h1, h2, q⟩ => by cases h; cases h1; exact ⟨d, h2, q⟩, fun ⟨d, h2, q⟩ => ⟨_, rfl, _, d, rfl, h2, q⟩⟩
theorem W_ix4 : ixQ (.bor ds) (.val (.int i)) Q = atK (atI ds i) Q := propext ⟨fun ⟨_, h, _, d, h1, h2, q⟩ => by cases h; cases h1; exact ⟨d, h2, q⟩, fun ⟨d, h2, q⟩ => ⟨_, rfl, _, d, rfl, h2, q⟩⟩
/-- slices -/
theorem W_sl {fl fh : OD} : eSlice fa fl fh env Q E = frz fa env (fun x => fl env (fun lo => fh env (fun hi => sliceQ x lo hi Q) E) E) E := rfl
theorem W_on {P : Option Int → Prop} : oNone env P E = P none := rfl
def partK (P : Option Int → Prop) : RV → Prop := fun r => match r with | .val (.int i) => P (some i) | _ => False
theorem W_os {P : Option Int → Prop} : oSome fa env P E = fa env (partK P) E := rfl
theorem W_part {P : Option Int → Prop} : partK P (.val (.int i)) = P (some i) := rfl
theorem W_sl1 {lo hi : Option Int} : sliceQ (.val (.str s)) lo hi Q = (s.length ≤ LIM ∧ Q (.val (.str (cutS s lo hi)))) := rfl
theorem W_sl2 {lo hi : Option Int} : sliceQ (.val (.tup ds)) lo hi Q = Q (.val (.tup (cutD ds lo hi))) := rfl
theorem W_sl3 {lo hi : Option Int} : sliceQ (.val (.lst ds)) lo hi Q = Q (.own (cutD ds lo hi)) := propext ⟨fun ⟨_, h1, q⟩ => by cases h1; exact q, fun q => ⟨_, rfl, q⟩⟩
theorem W_sl4 {lo hi : Option Int} : sliceQ (.bor ds) lo hi Q = Q (.own (cutD ds lo hi)) := propext ⟨fun ⟨_, h1, q⟩ => by cases h1; exact q, fun q => ⟨_, rfl, q⟩⟩
/-- built-ins -/
theorem W_len1 : lenQ [.val (.str s)] Q = (s.length ≤ LIM ∧ Q (.val (.int s.length))) := rfl
theorem W_len2 : lenQ [.val (.tup ds)] Q = Q (.val (.int ds.length)) := propext ⟨fun ⟨_, h1, q⟩ => by cases h1; exact q, fun q => ⟨_, rfl, q⟩⟩
theorem W_len3 : lenQ [.val (.lst ds)] Q = Q (.val (.int ds.length)) := propext ⟨fun ⟨_, h1, q⟩ => by cases h1; exact q, fun q => ⟨_, rfl, q⟩⟩
theorem W_len4 : lenQ [.bor ds] Q = Q (.val (.int ds.length)) := propext ⟨fun ⟨_, h1, q⟩ => by cases h1; exact q, fun q => ⟨_, rfl, q⟩⟩
theorem W_abs : absQ [.val (.int i)] Q = Q (.val (.int (if i < 0 then -i else i))) := rfl
theorem W_intf : intOfQ [.val (.int i)] Q = Q (.val (.int i)) := rfl
theorem W_strf : strOfQ [.val (.int i)] Q = (i.natAbs.log2 < 1920 ∧ Q (.val (.str (toString i)))) := rfl
theorem W_list1 : listOfQ [.val (.tup ds)] Q = Q (.own ds) := propext ⟨fun ⟨_, h1, q⟩ => by cases h1; exact q, fun q => ⟨_, rfl, q⟩⟩
theorem W_list2 : listOfQ [.val (.lst ds)] Q = Q (.own ds) := propext ⟨fun ⟨_, h1, q⟩ => by cases h1; exact q, fun q => ⟨_, rfl, q⟩⟩
theorem W_list3 : listOfQ [.bor ds] Q = Q (.own ds) := propext ⟨fun ⟨_, h1, q⟩ => by cases h1; exact q, fun q => ⟨_, rfl, q⟩⟩
theorem W_tup1 : tupOfQ [.val (.tup ds)] Q = Q (.val (.tup ds)) := propext ⟨fun ⟨_, h1, q⟩ => by cases h1; exact q, fun q => ⟨_, rfl, q⟩⟩
theorem W_tup2 : tupOfQ [.val (.lst ds)] Q = Q (.val (.tup ds)) := propext ⟨fun ⟨_, h1, q⟩ => by cases h1; exact q, fun q => ⟨_, rfl, q⟩⟩
theorem W_tup3 : tupOfQ [.bor ds] Q = Q (.val (.tup ds)) := propext ⟨fun ⟨_, h1, q⟩ => by cases h1; exact q, fun q => ⟨_, rfl, q⟩⟩
theorem W_max : max2Q [.val (.int i), .val (.int j)] Q = Q (.val (.int (if j > i then j else i))) := rfl
theorem W_min : min2Q [.val (.int i), .val (.int j)] Q = Q (.val (.int (if j < i then j else i))) := rfl
def allK (any : Bool) (o : Option (List Bool)) (Q : RV → Prop) (_u : Fx Q := ()) : Prop := ∃ bs, o = some bs ∧ Q (.val (.bl (if any then bs.any id else bs.all id)))
theorem W_allK {bs : List Bool} : allK b (some bs) Q = Q (.val (.bl (if b then bs.any id else bs.all id))) := propext ⟨fun ⟨_, h, q⟩ => by cases h; exact q, fun q => ⟨_, rfl, q⟩⟩
theorem W_all1 : allQ b [.val (.lst ds)] Q = allK b (bools ds) Q := propext ⟨fun ⟨_, bs, h1, h2, q⟩ => by cases h1; exact ⟨bs, h2, q⟩, fun ⟨bs, h2, q⟩ => ⟨_, bs, rfl, h2, q⟩⟩
/-- isinstance of data and a built-in class -/
def isiK (d : D) (n : String) (Q : RV → Prop) (_u : Fx Q := ()) : Prop := ∃ t b, tyName d = some t ∧ kitB t n = some b ∧ Q (.val (.bl b))
theorem W_isi1 {n : String} : isiQ [.val d, .val (.ty n)] Q = isiK d n Q := propext ⟨fun ⟨_, t, b, h1, h2, h3, q⟩ => by cases h1; exact ⟨t, b, h2, h3, q⟩, fun ⟨t, b, h2, h3, q⟩ => ⟨_, t, b, rfl, h2, h3, q⟩⟩
theorem W_isi2 {n : String} : isiQ [.bor ds, .val (.ty n)] Q = isiK (.lst ds) n Q := propext ⟨fun ⟨_, t, b, h1, h2, h3, q⟩ => by cases h1; exact ⟨t, b, h2, h3, q⟩, fun ⟨t, b, h2, h3, q⟩ => ⟨_, t, b, rfl, h2, h3, q⟩⟩
theorem isiK_of {n t : String} (h1 : tyName d = some t) (h2 : kitB t n = some b) : isiK d n Q = Q (.val (.bl b)) := propext ⟨fun ⟨t', b', h3, h4, q⟩ => by rw [h1] at h3; cases h3; rw [h2] at h4; cases h4; exact q, fun q => ⟨t, b, h1, h2, q⟩⟩
theorem W_k_ns : isiK .non "str" Q = Q (.val (.bl false)) := isiK_of rfl (by decide +kernel)
theorem W_k_bs : isiK (.bl b) "str" Q = Q (.val (.bl false)) := isiK_of rfl (by decide +kernel)
theorem W_k_is : isiK (.int i) "str" Q = Q (.val (.bl false)) := isiK_of rfl (by decide +kernel)
theorem W_k_ss : isiK (.str s) "str" Q = Q (.val (.bl true)) := isiK_of rfl (by decide +kernel)
theorem W_k_ts : isiK (.tup ds) "str" Q = Q (.val (.bl false)) := isiK_of rfl (by decide +kernel)
theorem W_k_ls : isiK (.lst ds) "str" Q = Q (.val (.bl false)) := isiK_of rfl (by decide +kernel)
theorem W_k_nb : isiK .non "bool" Q = Q (.val (.bl false)) := isiK_of rfl (by decide +kernel)
theorem W_k_bb : isiK (.bl b) "bool" Q = Q (.val (.bl true)) := isiK_of rfl (by decide +kernel)
theorem W_k_ib : isiK (.int i) "bool" Q = Q (.val (.bl false)) := isiK_of rfl (by decide +kernel)
theorem W_k_sb : isiK (.str s) "bool" Q = Q (.val (.bl false)) := isiK_of rfl (by decide +kernel)
theorem W_k_tb : isiK (.tup ds) "bool" Q = Q (.val (.bl false)) := isiK_of rfl (by decide +kernel)
theorem W_k_lb : isiK (.lst ds) "bool" Q = Q (.val (.bl false)) := isiK_of rfl (by decide +kernel)
theorem W_k_ni : isiK .non "int" Q = Q (.val (.bl false)) := isiK_of rfl (by decide +kernel)
theorem W_k_bi : isiK (.bl b) "int" Q = Q (.val (.bl true)) := isiK_of rfl (by decide +kernel)
theorem W_k_ii : isiK (.int i) "int" Q = Q (.val (.bl true)) := isiK_of rfl (by decide +kernel)
theorem W_k_si : isiK (.str s) "int" Q = Q (.val (.bl false)) := isiK_of rfl (by decide +kernel)
theorem W_k_ti : isiK (.tup ds) "int" Q = Q (.val (.bl false)) := isiK_of rfl (by decide +kernel)
theorem W_k_li : isiK (.lst ds) "int" Q = Q (.val (.bl false)) := isiK_of rfl (by decide +kernel)
theorem W_k_nt : isiK .non "tuple" Q = Q (.val (.bl false)) := isiK_of rfl (by decide +kernel)
theorem W_k_bt : isiK (.bl b) "tuple" Q = Q (.val (.bl false)) := isiK_of rfl (by decide +kernel)
theorem W_k_it : isiK (.int i) "tuple" Q = Q (.val (.bl false)) := isiK_of rfl (by decide +kernel)
theorem W_k_st : isiK (.str s) "tuple" Q = Q (.val (.bl false)) := isiK_of rfl (by decide +kernel)
theorem W_k_tt : isiK (.tup ds) "tuple" Q = Q (.val (.bl true)) := isiK_of rfl (by decide +kernel)
theorem W_k_lt : isiK (.lst ds) "tuple" Q = Q (.val (.bl false)) := isiK_of rfl (by decide +kernel)
theorem W_k_nl : isiK .non "list" Q = Q (.val (.bl false)) := isiK_of rfl (by decide +kernel)
theorem W_k_bl : isiK (.bl b) "list" Q = Q (.val (.bl false)) := isiK_of rfl (by decide +kernel)
theorem W_k_il : isiK (.int i) "list" Q = Q (.val (.bl false)) := isiK_of rfl (by decide +kernel)
theorem W_k_sl : isiK (.str s) "list" Q = Q (.val (.bl false)) := isiK_of rfl (by decide +kernel)
theorem W_k_tl : isiK (.tup ds) "list" Q = Q (.val (.bl false)) := isiK_of rfl (by decide +kernel)
theorem W_k_ll : isiK (.lst ds) "list" Q = Q (.val (.bl true)) := isiK_of rfl (by decide +kernel)
/-- displays -/
def valsK (o : Option (List D)) (P : List D → Prop) (_u : Fx P := ()) : Prop := ∃ ds, o = some ds ∧ ds.length ≤ LIM ∧ P ds
theorem W_valsK {P : List D → Prop} : valsK (some ds) P = (ds.length ≤ LIM ∧ P ds) := propext ⟨fun ⟨_, h, q⟩ => by cases h; exact q, fun q => ⟨_, rfl, q⟩⟩
theorem W_etup : eTup fs env Q E = fs env (fun rs => valsK (vals rs) (fun ds => Q (.val (.tup ds)))) E := rfl
theorem W_elst : eLst fs env Q E = fs env (fun rs => valsK (vals rs) (fun ds => Q (.own ds))) E := rfl
theorem W_vals0 : vals [] = some [] := rfl
theorem W_vals1 : vals (.val d :: rs) = (vals rs).map (d :: ·) := rfl
/-- tests -/
def boolK (B : Bool → Prop) : RV → Prop := fun r => match r with | .val (.bl b) => B b | _ => False
theorem W_bool : tBool fa env B E = fa env (boolK B) E := rfl
theorem W_bool1 : boolK B (.val (.bl b)) = B b := rfl
theorem W_tand : tAndD ta tb env B E = ta env (fun b => if b = true then tb env B E else B false) E := rfl
theorem W_tor : tOrD ta tb env B E = ta env (fun b => if b = true then B true else tb env B E) E := rfl
theorem W_tnot : tNotD ta env B E = ta env (fun b => B (!b)) E := rfl
theorem W_tru : tTruD fa env B E = frz fa env (fun x => truQ x B) E := rfl
theorem W_tru1 : truQ (.val (.bl b)) B = B b := rfl
theorem W_tru2 : truQ (.val .non) B = B false := rfl
theorem W_tru3 : truQ (.val (.int i)) B = B (i != 0) := rfl
theorem W_tru4 : truQ (.val (.str s)) B = (s.length ≤ LIM ∧ B ((s.length : Int) != 0)) := rfl
theorem W_tru5 : truQ (.val (.tup ds)) B = B (!ds.isEmpty) := propext ⟨fun ⟨_, h1, q⟩ => by cases h1; exact q, fun q => ⟨_, rfl, q⟩⟩
theorem W_tru6 : truQ (.val (.lst ds)) B = B (!ds.isEmpty) := propext ⟨fun ⟨_, h1, q⟩ => by cases h1; exact q, fun q => ⟨_, rfl, q⟩⟩
theorem W_tru7 : truQ (.bor ds) B = B (!ds.isEmpty) := propext ⟨fun ⟨_, h1, q⟩ => by cases h1; exact q, fun q => ⟨_, rfl, q⟩⟩
def boK (P : Bool → Prop) : RV → Prop := fun r => match r with | .val (.bl b) => P b | _ => False
theorem W_bo {P : Bool → Prop} : boK P (.val (.bl b)) = P b := rfl
theorem W_eand : eAnd fa fb env Q E = fa env (boK fun b => if b = true then fb env Q E else Q (.val (.bl false))) E := rfl
theorem W_eor : eOr fa fb env Q E = fa env (boK fun b => if b = true then Q (.val (.bl true)) else fb env Q E) E := rfl
theorem W_enot : eNot fa env Q E = fa env (boK fun b => Q (.val (.bl (!b)))) E := rfl
def inK1 (P : Int → Prop) : RV → Prop := fun r => match r with | .val (.int i) => P i | _ => False
theorem W_ink {P : Int → Prop} : inK1 P (.val (.int i)) = P i := rfl
theorem W_eneg : eNeg fa env Q E = fa env (inK1 fun i => Q (.val (.int (-i)))) E := rfl
/-- statements -/
theorem W_snil : sNil A env = A.nx env := rfl
theorem W_seq : sSeq sa sb A env = sa { A with nx := sb A } env := rfl
def asgK (i : Nat) (env : En) (P : En → Prop) : RV → Prop := fun r => ∃ s, toSV r = some s ∧ P (env.set i (some s))
theorem W_asg : sAsg n fa A env = fa env (asgK n env A.nx) (A.ex env) := rfl
theorem W_asg1 {P : En → Prop} : asgK n env P (.val d) = P (env.set n (some (.val d))) := propext ⟨fun ⟨_, h, q⟩ => by cases h; exact q, fun q => ⟨_, rfl, q⟩⟩
theorem W_asg2 {P : En → Prop} : asgK n env P (.own xs) = P (env.set n (some (.own xs))) := propext ⟨fun ⟨_, h, q⟩ => by cases h; exact q, fun q => ⟨_, rfl, q⟩⟩
theorem W_asg3 {P : En → Prop} : asgK n env P .sto = P (env.set n (some .sto)) := propext ⟨fun ⟨_, h, q⟩ => by cases h; exact q, fun q => ⟨_, rfl, q⟩⟩
theorem W_ret : sRet fa A env = fa env (fun r => A.rt (hand r)) (A.ex env) := rfl
theorem W_hand1 : hand (.val d) = .val d := rfl
theorem W_hand2 : hand (.own xs) = .own xs := rfl
theorem W_hand3 : hand (.bor xs) = .own xs := rfl
theorem W_hand4 : hand .sto = .sto := rfl
theorem W_expr : sExpr fa A env = fa env (fun _ => A.nx env) (A.ex env) := rfl
theorem W_if : sIf ta sa sb A env = ta env (fun b => if b = true then sa A env else sb A env) (A.ex env) := rfl
/-- the loops, marked -/
def forG (bd : BD) (fb : SD) (A : DEn) (items : List D) (env : En) (_u : Fx (bd, fb, A) := ()) : Prop := forW bd fb A items env
def lcG (bd : BD) (ft : TD) (fe : ED) (env : En) (P : List D → Prop) (items acc : List D) (_u : Fx (bd, ft, fe, P) := ()) : Prop := lcW bd ft fe env P items acc
theorem W_for {fi : ID} {bd : BD} {fb : SD} : sFor fi bd fb A env = fi env (fun items => items.length ≤ NN ∧ forG bd fb A items env) (A.ex env) := rfl
theorem W_any {P : List D → Prop} : iAnyD fa env P E = frz fa env (fun x => itemsQ x P) E := rfl
theorem W_it1 {P : List D → Prop} : itemsQ (.val (.lst ds)) P = P ds := rfl
theorem W_it2 {P : List D → Prop} : itemsQ (.val (.tup ds)) P = P ds := rfl
theorem W_it3 {P : List D → Prop} : itemsQ (.val (.str s)) P = P (signsD s) := rfl
theorem W_rg1 {P : List D → Prop} : iRange1 (aCons fa aNil) env P E = frz fa env (inK1 fun n => n ≤ 100000 ∧ -100000 ≤ n ∧ P (rangeD 0 n.toNat)) E := by
  show frz fa env (fun x => ∃ n, [x] = [.val (.int n)] ∧ n ≤ 100000 ∧ -100000 ≤ n ∧ P (rangeD 0 n.toNat)) E = _
  congr 1
  funext r
  apply propext
  constructor
  · rintro ⟨n, h1, h2⟩
    cases h1
    exact h2
  · intro h
    unfold inK1 at h
    split at h
    · exact ⟨_, rfl, h⟩
    · exact h.elim
theorem W_lc {fi : ID} {bd : BD} {ft : TD} {fe : ED} {vs : List Nat} : eLc fi bd ft fe vs env Q E = fi env (fun items => items.length ≤ NN ∧ lcG bd ft fe (wipeE env vs) (fun acc => Q (.own acc)) items []) E := rfl
theorem W_bn {P : En → Prop} : bName n d env P = P (env.set n (some (.val d))) := rfl
theorem W_yes : tYesD env B E = B true := rfl
def ownK (o : Option (Option SV)) (P : List D → Prop) (_u : Fx P := ()) : Prop := ∃ xs, o = some (some (.own xs)) ∧ P xs
theorem W_ownK {P : List D → Prop} : ownK (some (some (.own xs))) P = P xs := propext ⟨fun ⟨_, h, q⟩ => by cases h; exact q, fun q => ⟨_, rfl, q⟩⟩
theorem W_mut {q : QM} : sMut n q fs A env = ownK (env[n]?) (fun xs => fs env (fun rs => q rs xs (fun ys => A.nx (env.set n (some (.own ys))))) (A.ex env)) := rfl
theorem W_app {P : List D → Prop} : appQ [.val d] xs P = (xs.length < LIM ∧ P (xs ++ [d])) := rfl
theorem W_ins {P : List D → Prop} : insQ [.val (.int i), .val d] xs P = (xs.length < LIM ∧ 0 ≤ i ∧ i < 2 ^ 63 ∧ P (xs.take i.toNat ++ [d] ++ xs.drop i.toNat)) := rfl
def setK (o : Option Nat) (P : Nat → Prop) (_u : Fx P := ()) : Prop := ∃ j, o = some j ∧ P j
theorem W_setK {P : Nat → Prop} : setK (some n) P = P n := propext ⟨fun ⟨_, h, q⟩ => by cases h; exact q, fun q => ⟨_, rfl, q⟩⟩
def stK (xs : List D) (P : List D → Prop) (r k : RV) : Prop := ∃ d j n, r = .val d ∧ k = .val (.int n) ∧ ixN xs.length n = some j ∧ P (xs.set j d)
theorem W_stK {P : List D → Prop} : stK xs P (.val d) (.val (.int i)) = setK (ixN xs.length i) (fun j => P (xs.set j d)) := propext ⟨fun ⟨_, j, _, h1, h2, h3, q⟩ => by cases h1; cases h2; exact ⟨j, h3, q⟩, fun ⟨j, h, q⟩ => ⟨_, j, _, rfl, rfl, h, q⟩⟩
theorem W_setIx {fk fe : ED} : sSetIx n fk fe A env = ownK (env[n]?) (fun xs => frz fe env (fun r => frz fk env (fun k => stK xs (fun ys => A.nx (env.set n (some (.own ys)))) r k) (A.ex env)) (A.ex env)) := rfl
theorem W_join : eJoin fa fb env Q E = fa env (fun x => ∃ a, x = .val (.str a) ∧ frz fb env (fun y => ∃ ds ss, asSeq y = some ds ∧ strsOf ds = some ss ∧ (ss.map (·.length)).sum + ss.length * a.length ≤ LIM ∧ Q (.val (.str (Txt.join a ss)))) E) E := rfl
def strK (P : Str → Prop) : RV → Prop := fun r => ∃ a, r = .val (.str a) ∧ P a
theorem W_strK {P : Str → Prop} : strK P (.val (.str s)) = P s := propext ⟨fun ⟨_, h, q⟩ => by cases h; exact q, fun q => ⟨_, rfl, q⟩⟩
theorem W_upper : eUpper fa env Q E = fa env (strK fun a => a.length ≤ LIM ∧ Q (.val (.str (Txt.upper a)))) E := rfl
theorem W_join1 : eJoin fa fb env Q E = fa env (strK fun a => frz fb env (fun y => ∃ ds ss, asSeq y = some ds ∧ strsOf ds = some ss ∧ (ss.map (·.length)).sum + ss.length * a.length ≤ LIM ∧ Q (.val (.str (Txt.join a ss)))) E) E := rfl
theorem W_start : startE n rs = rs.map slotOf ++ List.replicate (n - rs.length) none := rfl
theorem W_slot1 : slotOf (.val d) = some (.val d) := rfl
theorem W_slot2 : slotOf .sto = some .sto := rfl
theorem W_arg1 : argOk (.val d) = True := rfl
theorem W_arg2 : argOk .sto = True := rfl
/-- the call's own reading is opened -/
theorem app_of {fn : FD} (h : fn rs Q E) : app fn rs Q E := h
theorem take_of {n : Int} (hn : n < 1073741824) (h : ∀ r : Int, 0 ≤ r → (n < 2 → r = 0) → (2 ≤ n → r < n) → Q (.val (.int r))) : app takeF [.sto, .val (.int n)] Q E := ⟨n, rfl, hn, h⟩
end
end DL

namespace DL
open PySem PySem.Spec L2
theorem fnok_none {P : Program} {w : World} {K : PySem.W.Frag} {mg : Str → Option Value} {base : Heap} {CX : CXT} {k n : Nat} {f : Addr} {fd : FuncData} {ps : List Str} : FnOk P w K mg base CX k f fd ps (spD K n fun _ _ _ => False) :=
  ⟨fun _ _ _ _ ⟨_, _, _, _, _, _, _, h⟩ => h.elim, fun _ _ _ _ _ _ _ _ _ _ _ _ _ ⟨_, _, _, _, _, _, _, h⟩ => h.elim⟩
theorem mono_none : MonoF (fun _ _ _ => False) := fun _ _ _ _ _ _ _ h => h
/-- a sign of a text, by its place -/
theorem atS_mem {l : List Nat} {i : Int} {Q : RV → Prop} (h0 : 0 ≤ i) (h1 : i < l.length) (h : ∀ c ∈ l, Q (.val (.str ⟨#[c]⟩))) : atS (atI l i) Q := by
  have e : atI l i = some l[i.toNat] := by
    have q := atI_nat (xs := l) (j := i.toNat) (v := l[i.toNat]) (List.getElem?_eq_getElem (by omega))
    rwa [Int.toNat_of_nonneg h0] at q
  exact ⟨_, e, h _ (List.getElem_mem _)⟩
theorem atK_mem {l : List D} {i : Int} {Q : RV → Prop} (h0 : 0 ≤ i) (h1 : i < l.length) (h : ∀ c ∈ l, Q (.val c)) : atK (atI l i) Q := by
  have e : atI l i = some l[i.toNat] := by
    have q := atI_nat (xs := l) (j := i.toNat) (v := l[i.toNat]) (List.getElem?_eq_getElem (by omega))
    rwa [Int.toNat_of_nonneg h0] at q
  exact ⟨_, e, h _ (List.getElem_mem _)⟩
theorem atK_at {l : List D} {j : Nat} {d : D} {Q : RV → Prop} (e : l[j]? = some d) (h : Q (.val d)) : atK (atI l (j : Int)) Q := ⟨d, atI_nat e, h⟩
theorem chars_len (s : Str) : s.cps.toList.length = s.length := Array.length_toList
theorem str_of_list {s : Str} {l : List Nat} (h : s.cps.toList = l) : s = ⟨l.toArray⟩ := by
  cases s with
  | mk a =>
    simp only at h
    rw [← h]
theorem one_len (c : Nat) : (⟨#[c]⟩ : Str).length = 1 := rfl
theorem app_list (a b : Str) : (a ++ b).cps.toList = a.cps.toList ++ b.cps.toList := by
  show (a.cps ++ b.cps).toList = _
  exact Array.toList_append
theorem sum_ones : ∀ {l : List Str}, (∀ a ∈ l, a.length = 1) → (l.map (·.length)).sum = l.length
  | [], _ => rfl
  | a :: l, h => by
    simp only [List.map_cons, List.sum_cons, List.length_cons, h a List.mem_cons_self, sum_ones (fun b m => h b (List.mem_cons_of_mem _ m))]
    omega
theorem join_len0 : ∀ (l : List Str), (Txt.join (Str.ofString "") l).length = (l.map (·.length)).sum := by
  intro l
  show (Builtin.Str.glued (Str.ofString "") l).length = _
  rw [PySem.StrLaws.glued_eq_join]
  have z : (Str.ofString "").length = 0 := by decide
  induction l with
  | nil => rfl
  | cons a r ih =>
    cases r with
    | nil => simp [Str.join]
    | cons b r =>
      rw [Str.join, len_add, len_add, z, ih]
      · simp
      · intro e
        cases e
theorem mem_range {lo : Int} {n : Nat} {d : D} (h : d ∈ rangeD lo n) : ∃ i : Nat, i < n ∧ d = .int (lo + (i : Nat)) := by
  unfold rangeD at h
  rw [List.mem_map] at h
  obtain ⟨i, h1, rfl⟩ := h
  exact ⟨i, List.mem_range.mp h1, rfl⟩
theorem range_len {lo : Int} {n : Nat} : (rangeD lo n).length = n := by unfold rangeD; rw [List.length_map, List.length_range]
theorem range_at {lo : Int} {n i : Nat} {d : D} (h : (rangeD lo n)[i]? = some d) : i < n ∧ d = .int (lo + (i : Nat)) := by
  have hi : i < n := by
    have := (List.getElem?_eq_some_iff.mp h).1
    rwa [range_len] at this
  unfold rangeD at h
  rw [List.getElem?_map, List.getElem?_range hi] at h
  exact ⟨hi, (Option.some.inj h).symm⟩
/-- the signs of a part are signs of the whole -/
theorem cut_mem {s : Str} {lo hi : Option Int} {c : Nat} (h : c ∈ (cutS s lo hi).cps.toList) : c ∈ s.cps.toList := by
  unfold cutS at h
  exact List.mem_of_mem_drop (List.mem_of_mem_take (by simpa using h))
end DL
namespace DL
open PySem PySem.Spec L2
theorem iteB {b : Bool} {A B : Prop} (h1 : b = true → A) (h2 : b = false → B) : if b = true then A else B := by
  cases b
  · exact h2 rfl
  · exact h1 rfl
theorem nn_of {n : Nat} (h : n ≤ 1000) : n ≤ NN := h
theorem lim_of {n : Nat} (h : n ≤ 100000) : n ≤ LIM := h
end DL

namespace DL
open PySem PySem.Spec L2
/-! ### ghost steps between statements -/
section
variable {X : Cx} {g : G} {W : WX} {T ca cb : Nat} {F H : Hp} {env : En} {σ : St} {sa sb : SD} {s : Stmt} {ss : List Stmt} {t u : TS}
/-- a list of our own becomes data -/
theorem Ok.freezeVar {i : Nat} {xs : List D} (k : Ok g T F env σ H) (hi : env[i]? = some (some (.own xs))) : ∃ F', Ex F F' ∧ Ok g T F' (env.set i (some (.val (.lst xs)))) σ H := by
  obtain ⟨a, hσ, o⟩ := k.own i xs hi
  have hs := o
  obtain ⟨n1, n2, n3, vs, n4, n5⟩ := o
  have ef : Ex F (upd F a (.lst vs)) := Evl.Ex.new n3
  have eh : Ex (upd F a (.lst vs)) H := fun b x q => by
    by_cases z : b = a
    · subst z
      rw [upd_same] at q
      cases q
      exact n4
    · rw [upd_ne z] at q
      exact k.fh b x q
  have hlt : i < env.length := (List.getElem?_eq_some_iff.mp hi).1
  have get : ∀ {j : Nat} {z : SV}, (env.set i (some (.val (.lst xs))))[j]? = some (some z) → (j = i ∧ z = .val (.lst xs)) ∨ (j ≠ i ∧ env[j]? = some (some z)) := by
    intro j z e
    by_cases c : i = j
    · subst c
      rw [List.getElem?_set_self hlt] at e
      cases e
      exact .inl ⟨rfl, rfl⟩
    · rw [List.getElem?_set_ne c] at e
      exact .inr ⟨fun z => c z.symm, e⟩
  refine ⟨upd F a (.lst vs), ef, ⟨⟨k.grow.ff.trans ef, eh, k.grow.hh, fun b q r => by
    have ne : b ≠ a := fun z => r (by rw [z]; exact n2)
    rw [upd_ne ne]
    exact k.grow.nf b q r, by
    rw [upd_ne n1.symm]
    exact k.grow.sf⟩, k.sto.to ef rfl (by rw [upd_ne n1.symm]; exact k.sto.free), by rw [List.length_set]; exact k.len, fun j d e => ?_, fun j e => ?_, fun j ys e => ?_, fun j l ys zs ne e1 e2 => ?_⟩⟩
  · rcases get e with ⟨rfl, z⟩ | ⟨ne, e⟩
    · cases z
      refine ⟨_, hσ, ?_⟩
      simp only [Rep]
      exact ⟨a, vs, rfl, upd_same, n5.mono ef⟩
    · obtain ⟨v, h1, h2⟩ := k.val j d e
      exact ⟨v, h1, h2.mono ef⟩
  · rcases get e with ⟨_, z⟩ | ⟨ne, e⟩
    · cases z
    · exact k.stor j e
  · rcases get e with ⟨_, z⟩ | ⟨ne, e⟩
    · cases z
    · obtain ⟨b, e1, e2⟩ := k.own j ys e
      have nb : b ≠ a := fun z => k.dis j i ys xs ne e hi (by rw [e1, hσ, z])
      obtain ⟨vs', e3, e4⟩ := e2.at'
      exact ⟨b, e1, e2.ns, e2.new, by rw [upd_ne nb]; exact e2.nf, vs', e3, e4.mono ef⟩
  · rcases get e1 with ⟨_, z⟩ | ⟨_, e1⟩
    · cases z
    · rcases get e2 with ⟨_, z⟩ | ⟨_, e2⟩
      · cases z
      · exact k.dis j l ys zs ne e1 e2
def sFrz (i : Nat) (f : SD) : SD := fun A env => ∃ xs, env[i]? = some (some (.own xs)) ∧ f A (env.set i (some (.val (.lst xs))))
theorem dss_frz (i : Nat) (h : DSs X g W ca ss sa) : DSs X g W ca ss (sFrz i sa) := by
  refine ⟨PSsimp h.ps fun D σ H ⟨T, F, env, hT, ok, xs, h1, q⟩ => ?_, fun A B env l ⟨xs, h1, q⟩ => ⟨xs, h1, h.mono _ _ _ l q⟩⟩
  obtain ⟨F', ef, ok'⟩ := ok.freezeVar h1
  exact ⟨T, F', _, hT, ok', h.mono _ _ _ (enS.up ef (Nat.le_refl _)) q⟩
theorem W_sFrz {A : DEn} {i : Nat} : sFrz i sa A env = ownK (env[i]?) (fun xs => sa A (env.set i (some (.val (.lst xs))))) := rfl
/-- statements of the data layer ahead of others -/
def tDP (g : G) (W : WX) (c : Nat) (f : SD) (u : TS) : TS := fun D σ H => tDS g W c f { D with nx := u D } σ H
structure DP (X : Cx) (g : G) (W : WX) (c : Nat) (st : List Stmt) (f : SD) (u : TS) : Prop where
  ps : PSs X st (tDP g W c f u)
  mono : MonoS f
theorem dp_one {rest : List Stmt} (ha : DS X g W ca s sa) (hu : PSs X rest u) : DP X g W ca (s :: rest) sa u := ⟨pss_cons ha.ps hu, ha.mono⟩
theorem dp_cons {rest : List Stmt} (ha : DS X g W ca s sa) (hb : DP X g W cb rest sb u) : DP X g W (ca + cb) (s :: rest) (sSeq sa sb) u := by
  refine ⟨PSsimp (pss_cons ha.ps hb.ps) fun D σ H ⟨T, F, env, hT, ok, h⟩ => ?_, mono_seq ha.mono hb.mono⟩
  refine ⟨T, F, env, by omega, ok, ha.mono _ _ _ ⟨fun e q F' σ' H' e' o => ?_, fun r q => okR.up (by omega) q, fun e q => okN.up (Evl.Ex.refl F) (by omega) q, fun e q => okN.up (Evl.Ex.refl F) (by omega) q, fun e x q => exS.up (Evl.Ex.refl F) (by omega) q⟩ h⟩
  exact ⟨T + ca, F', e, by omega, o, hb.mono _ _ _ (enS.up e' (by omega)) q⟩
/-- a ground chosen on the way -/
def tEx {α : Type} (p : α → Prop) (t : α → TS) : TS := fun D σ H => ∃ a, p a ∧ t a D σ H
theorem pss_ex {α : Type} {p : α → Prop} {t : α → TS} (h : ∀ a, p a → PSs X ss (t a)) : PSs X ss (tEx p t) :=
  ⟨fun pins s σ H D I ⟨a, pa, q⟩ => (h a pa).run pins s σ H D I q⟩
/-- a list becomes one that nobody writes -/
theorem inv_frz {pins : List (Addr × Obj)} {s : Shared} {c : Addr} {xs : List V} (I : Inv X pins σ H s) (hc : H c = some (.lst xs)) : ∃ o, Inv X pins σ (upd H c (.frz o (.lst xs))) s := by
  obtain ⟨z, its, n, r, e⟩ := I.hok c _ hc
  refine ⟨{ cls := .type "list", data := .seq its.toArray n }, I.ok, I.os, I.bare, ⟨I.base.keep, I.base.slot, fun b o q h0 hx => ?_, I.base.there, fun b xs q => ?_, fun b o u q => ?_, fun b ps q => ?_⟩, I.loc, I.cell, ?_, fun x k q => ?_, fun p hp => ?_, ?_, I.len⟩
  · have f := I.base.free b o q h0 hx
    by_cases h : b = c
    · subst h; rw [hc] at f; cases f
    · rw [upd_ne h]; exact f
  · have f := I.base.tups b xs q
    by_cases h : b = c
    · subst h; rw [hc] at f; cases f
    · rw [upd_ne h]; exact f
  · have f := I.base.frzs b o u q
    by_cases h : b = c
    · subst h; rw [hc] at f; cases f
    · rw [upd_ne h]; exact f
  · obtain ⟨m, f⟩ := I.base.tbls b ps q
    by_cases h : b = c
    · subst h; rw [hc] at f; cases f
    · exact ⟨m, by rw [upd_ne h]; exact f⟩
  · have f := I.free
    rw [upd_ne fun h => by rw [h, hc] at f; cases f]
    exact f
  · have f := I.freeC x k q
    rw [upd_ne fun h => by rw [h, hc] at f; cases f]
    exact f
  · obtain ⟨f1, f2, f3⟩ := I.pin p hp
    refine ⟨f1, ?_, f3⟩
    rw [upd_ne fun h => by rw [h, hc] at f2; cases f2]
    exact f2
  · intro b u q
    have st : ∀ {u : HO}, ObjOk X.prog X.w H s.heap b u → ObjOk X.prog X.w (upd H c (.frz { cls := .type "list", data := .seq its.toArray n } (.lst xs))) s.heap b u := fun x => x.stay (fun _ _ _ k => k) (fun k q => by
      have h : k ≠ c := fun h => by rw [h, hc] at q; cases q
      rw [upd_ne h]; exact q) fun k ys q => by
      have h : k ≠ c := fun h => by rw [h, hc] at q; cases q
      rw [upd_ne h]; exact q
    by_cases h : b = c
    · subst h
      rw [upd_same] at q
      cases q
      exact ⟨e, st (I.hok b _ hc)⟩
    · rw [upd_ne h] at q
      exact st (I.hok b u q)
theorem pss_frz (h : PSs X ss t) : PSs X ss (fun D σ H => ∃ c xs, H c = some (.lst xs) ∧ ∀ o, t D σ (upd H c (.frz o (.lst xs)))) := ⟨fun pins s σ H D I ⟨c, xs, hc, q⟩ => by
  obtain ⟨o, I'⟩ := inv_frz I hc
  exact h.run pins s σ _ D I' (q o)⟩
end
end DL
namespace DL
open PySem PySem.Spec L2
section
variable {X : Cx} {g : G} {W : WX} {ca : Nat} {fa : ED} {a : Expr} {pos p : Pos}
theorem call_str_bool : CallR X (.type "str") (fun xs H Q => ∃ b, xs = [.bl b] ∧ Q (.str (if b then "True" else "False")) H) := by
  intro pins s σ H xs us Q I r h
  obtain ⟨b, rfl, q⟩ := h
  obtain ⟨u, rfl, e⟩ := vals1 r
  cases e
  exact PySem.P.str_of_bool ⟨.str _, H, I.tok _, ⟨_, rfl⟩, q⟩
def strbQ : QC := fun rs Q => match rs with
  | [.val (.bl b)] => Q (.val (.str (if b then "True" else "False")))
  | _ => False
theorem mono_strbQ : MonoC strbQ := fun xs Q Q' hq q => by
  unfold strbQ at q ⊢
  split
  · exact hq _ q
  · split at q
    · simp_all
    · exact q
theorem d_strb : CallD g (fun xs H Q => ∃ b, xs = [.bl b] ∧ Q (.str (if b then "True" else "False")) H) strbQ := by
  intro T F env σ H Hs xs vs Q Qv ok rs q k
  unfold strbQ at q
  split at q
  · obtain ⟨v, rfl, r⟩ := rs1 (rs := []) rs
    simp only [RepR, Rep] at r
    subst r
    exact ⟨_, rfl, k _ F H _ q ok.refl ok (by simp only [RepR, Rep])⟩
  · exact q.elim
theorem de_strb (cy : Cy X g W) (hg : Gl X "str") (hm : X.mg "str" = none) (ha : DE X g W ca a fa) (h1 : starEach [a] X.env = (false, eval a X.env) :: starEach [] X.env := by rfl) (h3 : (backTo pos (starEach [] X.env)).any (·.1) = false := by rfl) : DE X g W (ca + 0) (.Call (.Name "str" p) [a] [] pos) (eCall strbQ (aCons fa aNil)) :=
  de_callTy call_str_bool d_strb mono_strbQ hg hm (by decide +kernel) (da_cons ha da_nil h1) (by decide) (by decide) h1 h3
theorem W_strb {Q : RV → Prop} {b : Bool} : strbQ [.val (.bl b)] Q = Q (.val (.str (if b then "True" else "False"))) := rfl
end
theorem len_upper (x : Str) : (Txt.upper x).length ≤ 3 * x.length := PyProof.Rows.len_upper x
end DL
namespace DL
open PySem PySem.Spec L2
theorem dp_frz {X : Cx} {g : G} {W : WX} {c : Nat} {ss : List Stmt} {f : SD} {u : TS} (i : Nat) (h : DP X g W c ss f u) : DP X g W c ss (sFrz i f) u := by
  refine ⟨PSsimp h.ps fun D σ H ⟨T, F, env, hT, ok, xs, h1, q⟩ => ?_, fun A B env l ⟨xs, h1, q⟩ => ⟨xs, h1, h.mono _ _ _ l q⟩⟩
  obtain ⟨F', ef, ok'⟩ := ok.freezeVar h1
  exact ⟨T, F', _, hT, ok', h.mono _ _ _ (enS.up ef (Nat.le_refl _)) q⟩
/-- all that is tracked but the store -/
def but (st : Addr) (H : Hp) : Hp := fun b => if b = st then none else H b
theorem but_st {st : Addr} {H : Hp} : but st H st = none := by unfold but; rw [if_pos rfl]
theorem but_ne {st b : Addr} {H : Hp} (h : b ≠ st) : but st H b = H b := by unfold but; rw [if_neg h]
theorem but_ex {st : Addr} {H : Hp} : Evl.Ex (but st H) H := fun b x q => by
  by_cases h : b = st
  · rw [h, but_st] at q; cases q
  · rwa [but_ne h] at q
/-- what was known is known of all -/
theorem but_of {st : Addr} {F H : Hp} (e : Evl.Ex F H) (s : F st = none) : Evl.Ex F (but st H) := fun b x q => by
  rw [but_ne (ne_of_none q s)]
  exact e b x q
theorem fn_or {P : Program} {w : World} {K : PySem.W.Frag} {mg : Str → Option Value} {base : Heap} {CX : CXT} {k : Nat} {f : Addr} {fd : FuncData} {ps : List Str} {s1 s2 : Sp} (a : FnOk P w K mg base CX k f fd ps s1) (b : FnOk P w K mg base CX k f fd ps s2) :
    FnOk P w K mg base CX k f fd ps (fun vs H Q E => s1 vs H Q E ∨ s2 vs H Q E) :=
  ⟨fun vs H Q E h => h.elim (a.len vs H Q E) (b.len vs H Q E), fun A outer s H args us vs Q E hr he hb hv h => h.elim (a.run A outer s H args us vs Q E hr he hb hv) (b.run A outer s H args us vs Q E hr he hb hv)⟩
theorem Ok.up0 {g : G} {T T' : Nat} {F H : Hp} {env : En} {σ : St} (h : Ok g T F env σ H) : Ok g T' F env σ H := ⟨h.grow, h.sto.any, h.len, h.val, h.stor, h.own, h.dis⟩
end DL

/-! law_k00_is_name: what stands in the text -/
namespace K00
open PySem PySem.Spec L2 DL
def topS (i : Nat) : Stmt := PySem.Challenge.pw_fourmet_k00_is_name.main.body.getD i (.Pass ⟨0, 0, 0, 0⟩)
abbrev s_is_name : Stmt := topS 12
abbrev N_is_name : List Str := ["value", "sign"]
theorem sc_is_name : FnScope N_is_name ["value"] (defScope s_is_name) := ⟨rfl, rfl, rfl, by decide +kernel, rfl, by decide +kernel, by decide +kernel⟩
abbrev s__law_mixed : Stmt := topS 14
abbrev N__law_mixed : List Str := ["number", "turn", "first", "second"]
theorem sc__law_mixed : FnScope N__law_mixed ["number", "turn"] (defScope s__law_mixed) := ⟨rfl, rfl, rfl, by decide +kernel, rfl, by decide +kernel, by decide +kernel⟩
abbrev s__law_store : Stmt := topS 15
abbrev N__law_store : List Str := ["script", "cells", "seed", "cell"]
theorem sc__law_store : FnScope N__law_store ["script"] (defScope s__law_store) := ⟨rfl, rfl, rfl, by decide +kernel, rfl, by decide +kernel, by decide +kernel⟩
abbrev s__law_take : Stmt := topS 16
abbrev N__law_take : List Str := ["store", "many", "cell", "digit"]
theorem sc__law_take : FnScope N__law_take ["store", "many"] (defScope s__law_take) := ⟨rfl, rfl, rfl, by decide +kernel, rfl, by decide +kernel, by decide +kernel⟩
abbrev s__law_once : Stmt := topS 17
abbrev N__law_once : List Str := ["store", "many"]
theorem sc__law_once : FnScope N__law_once ["store", "many"] (defScope s__law_once) := ⟨rfl, rfl, rfl, by decide +kernel, rfl, by decide +kernel, by decide +kernel⟩
abbrev s__law_pick : Stmt := topS 18
abbrev N__law_pick : List Str := ["store", "items"]
theorem sc__law_pick : FnScope N__law_pick ["store", "items"] (defScope s__law_pick) := ⟨rfl, rfl, rfl, by decide +kernel, rfl, by decide +kernel, by decide +kernel⟩
abbrev s__law_inorder : Stmt := topS 19
abbrev N__law_inorder : List Str := ["store", "items"]
theorem sc__law_inorder : FnScope N__law_inorder ["store", "items"] (defScope s__law_inorder) := ⟨rfl, rfl, rfl, by decide +kernel, rfl, by decide +kernel, by decide +kernel⟩
abbrev s__law_number : Stmt := topS 20
abbrev N__law_number : List Str := ["store", "low", "high", "turn"]
theorem sc__law_number : FnScope N__law_number ["store", "low", "high"] (defScope s__law_number) := ⟨rfl, rfl, rfl, by decide +kernel, rfl, by decide +kernel, by decide +kernel⟩
abbrev s__law_signs : Stmt := topS 21
abbrev N__law_signs : List Str := ["signs"]
theorem sc__law_signs : FnScope N__law_signs [] (defScope s__law_signs) := ⟨rfl, rfl, rfl, by decide +kernel, rfl, by decide +kernel, by decide +kernel⟩
abbrev s__law_string : Stmt := topS 22
abbrev N__law_string : List Str := ["store", "count", "signs", "piece", "k"]
theorem sc__law_string : FnScope N__law_string ["store", "count"] (defScope s__law_string) := ⟨rfl, rfl, rfl, by decide +kernel, rfl, by decide +kernel, by decide +kernel⟩
abbrev s__law_name : Stmt := topS 23
abbrev N__law_name : List Str := ["store", "letters", "signs", "count", "word", "k"]
theorem sc__law_name : FnScope N__law_name ["store"] (defScope s__law_name) := ⟨rfl, rfl, rfl, by decide +kernel, rfl, by decide +kernel, by decide +kernel⟩
abbrev s__law_badname : Stmt := topS 24
abbrev N__law_badname : List Str := ["store", "word", "turn", "signs", "wrong", "place"]
theorem sc__law_badname : FnScope N__law_badname ["store"] (defScope s__law_badname) := ⟨rfl, rfl, rfl, by decide +kernel, rfl, by decide +kernel, by decide +kernel⟩
abbrev s__law_same : Stmt := topS 25
abbrev N__law_same : List Str := ["actual", "due", "k"]
theorem sc__law_same : FnScope N__law_same ["actual", "due"] (defScope s__law_same) := ⟨rfl, rfl, rfl, by decide +kernel, rfl, by decide +kernel, by decide +kernel⟩
abbrev s__law_copied : Stmt := topS 26
abbrev N__law_copied : List Str := ["value", "item"]
theorem sc__law_copied : FnScope N__law_copied ["value"] (defScope s__law_copied) := ⟨rfl, rfl, rfl, by decide +kernel, rfl, by decide +kernel, by decide +kernel⟩
abbrev s__law_item : Stmt := topS 27
abbrev N__law_item : List Str := ["store", "turn", "word", "place", "k"]
theorem sc__law_item : FnScope N__law_item ["store"] (defScope s__law_item) := ⟨rfl, rfl, rfl, by decide +kernel, rfl, by decide +kernel, by decide +kernel⟩
abbrev s__law_due : Stmt := topS 28
abbrev N__law_due : List Str := ["item", "letters", "wrong", "sign"]
theorem sc__law_due : FnScope N__law_due ["item"] (defScope s__law_due) := ⟨rfl, rfl, rfl, by decide +kernel, rfl, by decide +kernel, by decide +kernel⟩
abbrev s__law_nearby : Stmt := topS 29
abbrev N__law_nearby : List Str := ["item"]
theorem sc__law_nearby : FnScope N__law_nearby ["item"] (defScope s__law_nearby) := ⟨rfl, rfl, rfl, by decide +kernel, rfl, by decide +kernel, by decide +kernel⟩
abbrev s_law : Stmt := topS 30
abbrev N_law : List Str := ["script", "store", "bounds", "items", "kept", "first", "k", "due", "item", "near"]
theorem sc_law : FnScope N_law ["script"] (defScope s_law) := ⟨rfl, rfl, rfl, by decide +kernel, rfl, by decide +kernel, by decide +kernel⟩
structure TxA where
  a_is_name : Addr
  f_is_name : FuncData
  a__law_mixed : Addr
  f__law_mixed : FuncData
  a__law_store : Addr
  f__law_store : FuncData
  a__law_take : Addr
  f__law_take : FuncData
  a__law_once : Addr
  f__law_once : FuncData
  a__law_pick : Addr
  f__law_pick : FuncData
  a__law_inorder : Addr
  f__law_inorder : FuncData
  a__law_number : Addr
  f__law_number : FuncData
  a__law_signs : Addr
  f__law_signs : FuncData
  a__law_string : Addr
  f__law_string : FuncData
  a__law_name : Addr
  f__law_name : FuncData
  a__law_badname : Addr
  f__law_badname : FuncData
  a__law_same : Addr
  f__law_same : FuncData
  a__law_copied : Addr
  f__law_copied : FuncData
  a__law_item : Addr
  f__law_item : FuncData
  a__law_due : Addr
  f__law_due : FuncData
  a__law_nearby : Addr
  f__law_nearby : FuncData
  a_law : Addr
  f_law : FuncData
  t_MOST_SIGNS : Tok
  t_MOST_NAMES : Tok
  t_MOST_LISTS : Tok
  t_PARTED_NAMES : Tok
  t_GROWN_NAMES : Tok
  t_MOST_TREES : Tok
  t_MOST_TEXT : Tok
  t_MOST_PAPER : Tok
  t_MOST_LINES : Tok
  t_LETTERS : Tok
  t_SIGNS : Tok
structure Tx (K : PySem.W.Frag) (mg : Str → Option Value) (A : TxA) : Prop where
  m_is_name : mg "is_name" = some (.ref A.a_is_name)
  F_is_name : Fun K "is_name" "is_name" s_is_name A.a_is_name A.f_is_name
  b_is_name : L2.Binds K A.f_is_name ["value"] []
  m__law_mixed : mg "_law_mixed" = some (.ref A.a__law_mixed)
  F__law_mixed : Fun K "_law_mixed" "_law_mixed" s__law_mixed A.a__law_mixed A.f__law_mixed
  b__law_mixed : L2.Binds K A.f__law_mixed ["number", "turn"] []
  m__law_store : mg "_law_store" = some (.ref A.a__law_store)
  F__law_store : Fun K "_law_store" "_law_store" s__law_store A.a__law_store A.f__law_store
  b__law_store : L2.Binds K A.f__law_store ["script"] []
  m__law_take : mg "_law_take" = some (.ref A.a__law_take)
  F__law_take : Fun K "_law_take" "_law_take" s__law_take A.a__law_take A.f__law_take
  b__law_take : L2.Binds K A.f__law_take ["store", "many"] []
  m__law_once : mg "_law_once" = some (.ref A.a__law_once)
  F__law_once : Fun K "_law_once" "_law_once" s__law_once A.a__law_once A.f__law_once
  b__law_once : L2.Binds K A.f__law_once ["store", "many"] []
  m__law_pick : mg "_law_pick" = some (.ref A.a__law_pick)
  F__law_pick : Fun K "_law_pick" "_law_pick" s__law_pick A.a__law_pick A.f__law_pick
  b__law_pick : L2.Binds K A.f__law_pick ["store", "items"] []
  m__law_inorder : mg "_law_inorder" = some (.ref A.a__law_inorder)
  F__law_inorder : Fun K "_law_inorder" "_law_inorder" s__law_inorder A.a__law_inorder A.f__law_inorder
  b__law_inorder : L2.Binds K A.f__law_inorder ["store", "items"] []
  m__law_number : mg "_law_number" = some (.ref A.a__law_number)
  F__law_number : Fun K "_law_number" "_law_number" s__law_number A.a__law_number A.f__law_number
  b__law_number : L2.Binds K A.f__law_number ["store", "low", "high"] []
  m__law_signs : mg "_law_signs" = some (.ref A.a__law_signs)
  F__law_signs : Fun K "_law_signs" "_law_signs" s__law_signs A.a__law_signs A.f__law_signs
  b__law_signs : L2.Binds K A.f__law_signs [] []
  m__law_string : mg "_law_string" = some (.ref A.a__law_string)
  F__law_string : Fun K "_law_string" "_law_string" s__law_string A.a__law_string A.f__law_string
  b__law_string : L2.Binds K A.f__law_string ["store", "count"] []
  m__law_name : mg "_law_name" = some (.ref A.a__law_name)
  F__law_name : Fun K "_law_name" "_law_name" s__law_name A.a__law_name A.f__law_name
  b__law_name : L2.Binds K A.f__law_name ["store"] []
  m__law_badname : mg "_law_badname" = some (.ref A.a__law_badname)
  F__law_badname : Fun K "_law_badname" "_law_badname" s__law_badname A.a__law_badname A.f__law_badname
  b__law_badname : L2.Binds K A.f__law_badname ["store"] []
  m__law_same : mg "_law_same" = some (.ref A.a__law_same)
  F__law_same : Fun K "_law_same" "_law_same" s__law_same A.a__law_same A.f__law_same
  b__law_same : L2.Binds K A.f__law_same ["actual", "due"] []
  m__law_copied : mg "_law_copied" = some (.ref A.a__law_copied)
  F__law_copied : Fun K "_law_copied" "_law_copied" s__law_copied A.a__law_copied A.f__law_copied
  b__law_copied : L2.Binds K A.f__law_copied ["value"] []
  m__law_item : mg "_law_item" = some (.ref A.a__law_item)
  F__law_item : Fun K "_law_item" "_law_item" s__law_item A.a__law_item A.f__law_item
  b__law_item : L2.Binds K A.f__law_item ["store"] []
  m__law_due : mg "_law_due" = some (.ref A.a__law_due)
  F__law_due : Fun K "_law_due" "_law_due" s__law_due A.a__law_due A.f__law_due
  b__law_due : L2.Binds K A.f__law_due ["item"] []
  m__law_nearby : mg "_law_nearby" = some (.ref A.a__law_nearby)
  F__law_nearby : Fun K "_law_nearby" "_law_nearby" s__law_nearby A.a__law_nearby A.f__law_nearby
  b__law_nearby : L2.Binds K A.f__law_nearby ["item"] []
  m_law : mg "law" = some (.ref A.a_law)
  F_law : Fun K "law" "law" s_law A.a_law A.f_law
  b_law : L2.Binds K A.f_law ["script"] []
  m_MOST_SIGNS : mg "MOST_SIGNS" = some (.int 8 A.t_MOST_SIGNS)
  m_MOST_NAMES : mg "MOST_NAMES" = some (.int 12 A.t_MOST_NAMES)
  m_MOST_LISTS : mg "MOST_LISTS" = some (.int 12 A.t_MOST_LISTS)
  m_PARTED_NAMES : mg "PARTED_NAMES" = some (.int 7 A.t_PARTED_NAMES)
  m_GROWN_NAMES : mg "GROWN_NAMES" = some (.int 6 A.t_GROWN_NAMES)
  m_MOST_TREES : mg "MOST_TREES" = some (.int 400 A.t_MOST_TREES)
  m_MOST_TEXT : mg "MOST_TEXT" = some (.int 400 A.t_MOST_TEXT)
  m_MOST_PAPER : mg "MOST_PAPER" = some (.int 8000 A.t_MOST_PAPER)
  m_MOST_LINES : mg "MOST_LINES" = some (.int 40 A.t_MOST_LINES)
  m_LETTERS : mg "LETTERS" = some (.str "abcdefghijklmnopqrstuvwxyz" A.t_LETTERS)
  m_SIGNS : mg "SIGNS" = some (.str "abcdefghijklmnopqrstuvwxyz0123456789" A.t_SIGNS)
  kb_is_name : KB K A.f_is_name ["value"] ["value"] (fun l => l)
  m_len : mg "len" = none
  m_abs : mg "abs" = none
  m_int : mg "int" = none
  m_str : mg "str" = none
  m_list : mg "list" = none
  m_tuple : mg "tuple" = none
  m_all : mg "all" = none
  m_isinstance : mg "isinstance" = none
  m_bool : mg "bool" = none
  m_range : mg "range" = none
section
variable {P : Program} {w : World} {K : PySem.W.Frag} {mg : Str → Option Value} {base : Heap} {A : TxA}
def sp__law_mixed : FD := mixedF
theorem mono__law_mixed : MonoF sp__law_mixed := mono_mixedF
theorem ok__law_mixed (T : Tx K mg A) : FnOk P w K mg base (L2.CX P w) 1 A.a__law_mixed A.f__law_mixed ["number", "turn"] (spD K 2 sp__law_mixed) := by
  refine fn_okD T.F__law_mixed sc__law_mixed (by decide) (fun cdv A0 outer s H E g hK hr cy => ?_)
  refine ⟨_, _, (dss_cons (ds_asg 2 (de_mod cy (de_intf cy (by rfl) T.m_int (de_add cy (de_add cy (de_mul cy (de_var 0) de_int) (de_mul cy (de_var 1) de_int)) de_int)) de_int) sc__law_mixed.nd)
    (dss_cons (ds_asg 3 (de_mod cy (de_intf cy (by rfl) T.m_int (de_add cy (de_add cy (de_mul cy (de_var 2) (de_var 2)) (de_mul cy (de_var 1) de_int)) (de_fdiv cy (de_var 2) de_int))) de_int) sc__law_mixed.nd)
    (dss_one (ds_ret (de_mod cy (de_intf cy (by rfl) T.m_int (de_add cy (de_mul cy (de_var 3) de_int) (de_var 2))) de_int))))), fun rs Q Ex hl h => ?_⟩
  obtain ⟨a, t, rfl, h⟩ := h
  simp -dsimp only [↓W_var, ↓W_var1, ↓W_var2, ↓W_var3, ↓W_c, ↓W_frz, ↓W_frz1, ↓W_frz2, ↓W_frz3, ↓W_frz4, ↓W_op, ↓W_call, ↓W_fn, ↓W_fn0, ↓W_fnK, ↓W_nil, ↓W_cons, ↓W_add1, ↓W_add2, ↓W_add3, ↓W_add4, ↓W_add5, ↓W_add6, ↓W_add7, ↓W_int, ↓W_int0, ↓W_mul1, ↓W_mul2, ↓W_eq1, ↓W_eq2, ↓W_eq3, ↓W_eq4, ↓W_ne1, ↓W_ne2, ↓W_ne3, ↓W_in1, ↓W_in2, ↓W_in3, ↓W_in4, ↓W_in5, ↓W_is1, ↓W_is2, ↓W_at, ↓W_atS, ↓W_ix1, ↓W_ix2, ↓W_ix3, ↓W_ix4, ↓W_sl, ↓W_on, ↓W_os, ↓W_part, ↓W_sl1, ↓W_sl2, ↓W_sl3, ↓W_sl4, ↓W_len1, ↓W_len2, ↓W_len3, ↓W_len4, ↓W_abs, ↓W_intf, ↓W_strf, ↓W_list1, ↓W_list2, ↓W_list3, ↓W_tup1, ↓W_tup2, ↓W_tup3, ↓W_max, ↓W_min, ↓W_allK, ↓W_all1, ↓W_isi1, ↓W_isi2, ↓W_k_ns, ↓W_k_bs, ↓W_k_is, ↓W_k_ss, ↓W_k_ts, ↓W_k_ls, ↓W_k_nb, ↓W_k_bb, ↓W_k_ib, ↓W_k_sb, ↓W_k_tb, ↓W_k_lb, ↓W_k_ni, ↓W_k_bi, ↓W_k_ii, ↓W_k_si, ↓W_k_ti, ↓W_k_li, ↓W_k_nt, ↓W_k_bt, ↓W_k_it, ↓W_k_st, ↓W_k_tt, ↓W_k_lt, ↓W_k_nl, ↓W_k_bl, ↓W_k_il, ↓W_k_sl, ↓W_k_tl, ↓W_k_ll, ↓W_valsK, ↓W_etup, ↓W_elst, ↓W_vals0, ↓W_vals1, ↓W_bool, ↓W_bool1, ↓W_tand, ↓W_tor, ↓W_tnot, ↓W_tru, ↓W_tru1, ↓W_tru2, ↓W_tru3, ↓W_tru4, ↓W_tru5, ↓W_tru6, ↓W_tru7, ↓W_bo, ↓W_eand, ↓W_eor, ↓W_enot, ↓W_ink, ↓W_eneg, ↓W_snil, ↓W_seq, ↓W_asg, ↓W_asg1, ↓W_asg2, ↓W_asg3, ↓W_ret, ↓W_hand1, ↓W_hand2, ↓W_hand3, ↓W_hand4, ↓W_expr, ↓W_if, ↓W_for, ↓W_any, ↓W_it1, ↓W_it2, ↓W_it3, ↓W_rg1, ↓W_lc, ↓W_bn, ↓W_yes, ↓W_ownK, ↓W_mut, ↓W_app, ↓W_ins, ↓W_setK, ↓W_stK, ↓W_setIx, ↓W_strK, ↓W_upper, ↓W_join1, ↓W_start, ↓W_slot1, ↓W_slot2, ↓W_arg1, ↓W_arg2, ↓W_sFrz, ↓W_strb, endsD, wipeE, List.foldr_cons, List.foldr_nil, List.length_cons, List.length_nil, List.map_cons, List.map_nil, List.cons_append, List.nil_append, List.append_nil, List.replicate, List.getElem?_cons_zero, List.getElem?_cons_succ, List.getElem?_nil, List.set_cons_zero, List.set_cons_succ, Nat.reduceAdd, Nat.reduceSub, Nat.zero_add, if_true, if_false, Bool.false_eq_true, Bool.not_true, Bool.not_false, true_and, and_true, List.forall_mem_cons, List.mem_cons, List.not_mem_nil, or_false, forall_eq_or_imp, forall_eq, false_and, and_false, implies_true, false_or, Option.map_some, Option.map_none, ite_self, Bool.and_true, Bool.true_and, Bool.and_false, Bool.false_and, List.forall_mem_nil, decide_true, decide_false, isNonD, signsD]
  have f1 : 0 ≤ (a * 48271 + t * 69621 + 11).fmod 2147483647 := Int.fmod_nonneg_of_pos _ (by decide)
  have f2 : (a * 48271 + t * 69621 + 11).fmod 2147483647 < 2147483647 := Int.fmod_lt_of_pos _ (by decide)
  refine ⟨cmul_r (by decide) (by decide), cmul_r (by decide) (by decide), by decide, cmul_r (by omega) (by omega), cmul_r (by decide) (by decide), ⟨by decide, by decide⟩, by decide, cmul_r (by decide) (by decide), by decide, ?_⟩
  exact h _ (Int.fmod_nonneg_of_pos _ (by decide)) (Int.fmod_lt_of_pos _ (by decide))


def sp__law_take : FD := takeF
theorem mono__law_take : MonoF sp__law_take := mono_takeF
/-- the store is read, written -/
theorem ok__law_take (T : Tx K mg A) : FnOk P w K mg base (L2.CX P w) 2 A.a__law_take A.f__law_take ["store", "many"] (spD K 2 sp__law_take) := by
  have M := ok__law_mixed (P := P) (w := w) (base := base) T
  refine T.F__law_take.okX sc__law_take (fun vs H Q E h => ?_) (fun cdv A0 outer s H vs Q E hr h => ?_)
  · obtain ⟨st, F, rs, h1, _, _, h2, _⟩ := h
    rw [h2.length, h1]
    rfl
  · obtain ⟨st, F, rs, h1, hs, he, ha, n, rfl, hn, hf⟩ := h
    obtain ⟨v0, w0, rfl, e0, v1, w1, rfl, e1, e2⟩ := ha
    have e2' : w1 = [] := e2
    subst e2'
    have e1' : v1 = .int n := by simpa only [Rep] using e1
    subst e1'
    have e0' : v0 = .ref st := e0
    subst e0'
    obtain ⟨c, ns, i, r, sd, t, S⟩ := Sto.of hs
    have g0 : Grow st F H F H := Grow.refl he hs.free
    have tk : Takes (cxOf (L2.CX P w) P w K mg base N__law_take "_law_take" (defScope s__law_take) A.a__law_take cdv A0 outer s H E) (fun cls d _ H => E cls d H) := takes_of rfl rfl rfl rfl
    refine ⟨_, pss_cons (ps_if (pt_cmpR op_lt (pv 1) pe_int (nomark _)) (pss_one (ps_ret pe_int)) pss_nil)
      (pss_cons (ps_asg (pe_op op_add (pe_ix ix_list (pv 0) pe_int (fun _ _ => rfl)) pe_int) (pg_sub (pv 0) pe_int set_list))
      (Evl.pss_cut (ps_if (PW.pt (pw_and (pt_cmpR op_eq (pe_ix ix_list (pv 0) pe_int (fun _ _ => rfl)) pe_int (nomark _)) (pw_and1 (pt_cmpR op_lt (pe_ix ix_list (pv 0) pe_int (fun _ _ => rfl)) (pe_callB call_len_seq (by rfl) T.m_len PySem.boot_len (pa_cons (pe_ix ix_list (pv 0) pe_int (fun _ _ => rfl)) pa_nil)) (nomark _)))))
        (pss_cons (ps_set (i := 2) sc__law_take.nd rfl (.inl rfl) (pe_ix ix_list (pe_ix ix_list (pv 0) pe_int (fun _ _ => rfl)) (pe_ix ix_list (pv 0) pe_int (fun _ _ => rfl)) (fun _ _ => rfl)))
        (pss_cons (ps_asg (pe_op op_add (pe_ix ix_list (pv 0) pe_int (fun _ _ => rfl)) pe_int) (pg_sub (pv 0) pe_int set_list))
        (pss_cons (ps_if (pt_cmpR op_lt (pe_callB call_abs (by rfl) T.m_abs (by decide +kernel) (pa_cons (pv 2) pa_nil)) (pe_op op_pow pe_int pe_int) (nomark _))
          (pss_one (ps_ret (pe_op op_modN (pe_callTy call_int1 (by rfl) T.m_int (by decide +kernel) (pa_cons (pe_callS M (hr.mono (by decide)) (by rfl) T.m__law_mixed T.F__law_mixed.kp T.b__law_mixed (fun σ => passAt tk σ) (pa_cons (pv 2) (pa_cons (pe_ix ix_list (pv 0) pe_int (fun _ _ => rfl)) pa_nil))) pa_nil)) (pv 1)))) pss_nil)
        (pss_one (ps_asg (pe_callB call_abs (by rfl) T.m_abs (by decide +kernel) (pa_cons (pv 2) pa_nil)) (pg_sub (pv 0) pe_int set_list)))))) pss_nil)
      (pss_cons (ps_if (pt_cmpR op_gt (pe_ix ix_list (pv 0) pe_int (fun _ _ => rfl)) pe_int (nomark _))
        (pss_cons (ps_set (i := 3) sc__law_take.nd rfl (.inl rfl) (pe_op op_modN (pe_callTy call_int1 (by rfl) T.m_int (by decide +kernel) (pa_cons (pe_ix ix_list (pv 0) pe_int (fun _ _ => rfl)) pa_nil)) (pv 1)))
        (pss_cons (ps_asg (pe_op op_fdivN (pe_callTy call_int1 (by rfl) T.m_int (by decide +kernel) (pa_cons (pe_ix ix_list (pv 0) pe_int (fun _ _ => rfl)) pa_nil)) (pv 1)) (pg_sub (pv 0) pe_int set_list))
        (pss_one (ps_ret (pv 3))))) pss_nil)
      (pss_cons (ps_asg (pe_callS M (hr.mono (by decide)) (by rfl) T.m__law_mixed T.F__law_mixed.kp T.b__law_mixed (fun σ => passAt tk σ) (pa_cons (pe_ix ix_list (pv 0) pe_int (fun _ _ => rfl)) (pa_cons (pe_ix ix_list (pv 0) pe_int (fun _ _ => rfl)) pa_nil))) (pg_sub (pv 0) pe_int set_list))
      (pss_one (ps_ret (pe_op op_modN (pe_callTy call_int1 (by rfl) T.m_int (by decide +kernel) (pa_cons (pe_ix ix_list (pv 0) pe_int (fun _ _ => rfl)) pa_nil)) (pv 1)))))))), ?_⟩
    have fin : ∀ {F1 H1 : Hp} {z : Int}, Grow st F H F1 H1 → StoreAt K st 0 F1 H1 → 0 ≤ z → z < n → 2 ≤ n → Q (.int z) H1 := fun {F1 H1 z} g1 s1 h0 h1 h2 => hf _ h0 (fun h => by omega) (fun _ => h1) F1 _ _ g1 s1 (by simp only [RetR, Rep])
    refine ⟨_, rfl, _, _, rfl, rfl, _, rfl, ite2 (fun cc => ?_) (fun cc => ?_)⟩
    · have c1 : n < 2 := of_decide_eq_true cc
      exact hf 0 (Int.le_refl 0) (fun _ => rfl) (fun h => by omega) F H _ g0 hs (by simp only [RetR, Rep])
    have n2 : 2 ≤ n := by
      have := of_decide_eq_false (Bool.eq_false_iff.mpr cc)
      omega
    have nf : n ≠ 0 := by omega
    -- store[4] = store[4] + 1
    refine ⟨_, rfl, st, _, 4, .int t, rfl, rfl, .inl (.inl S.at'), rfl, t, 1, rfl, rfl, _, rfl, st, _, 4, 4, rfl, rfl, S.at', rfl, ?_⟩
    have S1 := S.put (i' := i) (r' := r) (sd' := sd) (t' := t + 1) S.i0 S.r0 S.s0 S.s1 (by have := S.t0; omega)
    have g1 : Grow st F H F (upd H st (.lst [.ref c, .int i, .int r, .int sd, .int (t + 1)])) := g0.put
    have x1 : SqL K (upd H st (.lst [.ref c, .int i, .int r, .int sd, .int (t + 1)])) c (ns.map V.int) := Evl.ex_l g1.fh S1.sq
    refine ⟨fun σ H2 => ∃ y2 y3 i r sd t, σ = [some (.ref st), some (.int n), y2, y3] ∧ Sto K st F H2 c ns i r sd t ∧ Grow st F H F H2, ?_, ?_⟩
    · refine ⟨_, rfl, st, _, 2, .int r, rfl, rfl, .inl (.inl S1.at'), rfl, rfl, _, rfl, ite2 (fun c1 => ?_) (fun c1 => iteF ⟨_, _, _, _, _, _, rfl, S1, g1⟩)⟩
      refine ⟨_, rfl, st, _, 1, .int i, rfl, rfl, .inl (.inl S1.at'), rfl, _, rfl, st, _, 0, .ref c, rfl, rfl, .inl (.inl S1.at'), rfl, c, _, rfl, .inl x1, _, _, rfl, rfl, _, rfl, ite2 (fun c2 => ?_) (fun c2 => ⟨_, _, _, _, _, _, rfl, S1, g1⟩)⟩
      have hlt : i < ((ns.map V.int).length : Int) := of_decide_eq_true c2
      rw [List.length_map] at hlt
      have hi : i.toNat < ns.length := by have := S1.i0; omega
      obtain ⟨cell, at1⟩ : ∃ z, atI (ns.map V.int) i = some (.int z) := ⟨ns[i.toNat], by
        have q := atI_nat (xs := ns.map V.int) (j := i.toNat) (v := .int ns[i.toNat]) (by rw [List.getElem?_map, List.getElem?_eq_getElem hi]; rfl)
        rw [Int.toNat_of_nonneg S1.i0] at q
        exact q⟩
      -- cell = store[0][store[1]]
      refine ⟨_, rfl, st, _, 0, .ref c, rfl, rfl, .inl (.inl S1.at'), rfl, _, rfl, st, _, 1, .int i, rfl, rfl, .inl (.inl S1.at'), rfl, c, _, i, _, rfl, rfl, x1, at1, ?_⟩
      -- store[1] = store[1] + 1
      refine ⟨_, rfl, st, _, 1, .int i, rfl, rfl, .inl (.inl S1.at'), rfl, i, 1, rfl, rfl, _, rfl, st, _, 1, 1, rfl, rfl, S1.at', rfl, ?_⟩
      have S2 := S1.put (i' := i + 1) (r' := r) (sd' := sd) (t' := t + 1) (by have := S1.i0; omega) S1.r0 S1.s0 S1.s1 S1.t0
      have g2 := g1.put (o := .lst [.ref c, .int (i + 1), .int r, .int sd, .int (t + 1)])
      -- abs(cell) < 10 ** 18
      refine ⟨_, rfl, _, rfl, 10, 18, rfl, rfl, ⟨by decide, by decide, by decide⟩, _, _, rfl, rfl, _, rfl, ite2 (fun c3 => ?_) (fun c3 => ?_)⟩
      · refine ⟨_, rfl, _, rfl, st, _, 4, .int (t + 1), rfl, rfl, .inl (.inl S2.at'), rfl, ?_⟩
        refine ⟨st, F, [.val (.int cell), .val (.int (t + 1))], rfl, S2.store, g2.fh, ⟨_, _, rfl, by simp only [Rep], _, _, rfl, by simp only [Rep], rfl⟩, _, _, rfl, fun z h0 h1 F' H' v w s2 rr => ?_⟩
        have ev : v = .int z := by simpa only [RetR, Rep] using rr
        subst ev
        exact .inl ⟨z, rfl, _, rfl, _, _, rfl, rfl, nf, fin (g2.trans w) s2 (Int.fmod_nonneg_of_pos _ (by omega)) (Int.fmod_lt_of_pos _ (by omega)) n2⟩
      · refine ⟨_, rfl, _, rfl, _, rfl, st, _, 2, 2, rfl, rfl, S2.at', rfl, ?_⟩
        have hab : 0 ≤ (if cell < 0 then -cell else cell) := by split <;> omega
        exact ⟨_, _, _, _, _, _, rfl, S2.put (i' := i + 1) (r' := if cell < 0 then -cell else cell) (sd' := sd) (t' := t + 1) S2.i0 hab S2.s0 S2.s1 S2.t0, g2.put⟩
    · rintro σ2 H2 ⟨y2, y3, i, r, sd, t, rfl, S2, g2⟩
      refine ⟨_, rfl, st, _, 2, .int r, rfl, rfl, .inl (.inl S2.at'), rfl, _, _, rfl, rfl, _, rfl, ite2 (fun c1 => ?_) (fun c1 => ?_)⟩
      · -- digit = int(store[2]) % many
        refine ⟨_, rfl, st, _, 2, .int r, rfl, rfl, .inl (.inl S2.at'), rfl, .inl ⟨r, rfl, _, rfl, r, n, rfl, rfl, nf, ?_⟩⟩
        refine ⟨_, rfl, st, _, 2, .int r, rfl, rfl, .inl (.inl S2.at'), rfl, .inl ⟨r, rfl, _, rfl, r, n, rfl, rfl, ⟨nf, by omega⟩, _, rfl, st, _, 2, 2, rfl, rfl, S2.at', rfl, ?_⟩⟩
        have hr : 0 ≤ r.fdiv n := Int.fdiv_nonneg S2.r0 (by omega)
        have S3 := S2.put (i' := i) (r' := r.fdiv n) (sd' := sd) (t' := t) S2.i0 hr S2.s0 S2.s1 S2.t0
        exact ⟨_, rfl, fin g2.put S3.store (Int.fmod_nonneg_of_pos _ (by omega)) (Int.fmod_lt_of_pos _ (by omega)) n2⟩
      · -- store[3] = _law_mixed(store[3], store[4])
        refine ⟨_, rfl, st, _, 3, .int sd, rfl, rfl, .inl (.inl S2.at'), rfl, _, rfl, st, _, 4, .int t, rfl, rfl, .inl (.inl S2.at'), rfl, ?_⟩
        refine ⟨st, F, [.val (.int sd), .val (.int t)], rfl, S2.store, g2.fh, ⟨_, _, rfl, by simp only [Rep], _, _, rfl, by simp only [Rep], rfl⟩, _, _, rfl, fun z h0 h1 F' H' v w s2 rr => ?_⟩
        have ev : v = .int z := by simpa only [RetR, Rep] using rr
        subst ev
        obtain ⟨c', ns', i', r', sd', t', S3⟩ := Sto.of s2
        refine ⟨_, rfl, st, _, 3, 3, rfl, rfl, S3.at', rfl, ?_⟩
        have S4 := S3.put (i' := i') (r' := r') (sd' := z) (t' := t') S3.i0 S3.r0 h0 (by omega) S3.t0
        have g3 : Grow st F H F' (upd H' st (.lst [.ref c', .int i', .int r', .int z, .int t'])) := (g2.trans w).put
        exact ⟨_, rfl, st, _, 3, .int z, rfl, rfl, .inl (.inl S4.at'), rfl, .inl ⟨z, rfl, _, rfl, z, n, rfl, rfl, nf, fin g3 S4.store (Int.fmod_nonneg_of_pos _ (by omega)) (Int.fmod_lt_of_pos _ (by omega)) n2⟩⟩


def sp__law_once : FD := fun rs Q _ => ∃ n : Int, rs = [.sto, .val (.int n)] ∧ n < 1073741824 ∧ ∀ b : Bool, Q (.val (.bl b))
theorem mono__law_once : MonoF sp__law_once := fun rs Q Q' E E' hq he ⟨n, h1, h2, h3⟩ => ⟨n, h1, h2, fun b => hq _ (h3 b)⟩

theorem ok__law_once (T : Tx K mg A) : FnOk P w K mg base (L2.CX P w) 3 A.a__law_once A.f__law_once ["store", "many"] (spD K 2 sp__law_once) := by
  refine fn_okD T.F__law_once sc__law_once (by decide) (fun cdv A0 outer s H E g hK hr cy => ?_)
  refine ⟨_, _, (dss_one (ds_ret (de_eq cy (de_call cy (ok__law_take T) mono__law_take (hr.mono (by decide)) (by rfl) T.m__law_take T.F__law_take.kp T.b__law_take (da_cons (de_var 0) (da_cons (de_var 1) da_nil))) de_int))), fun rs Q Ex hl h => ?_⟩
  obtain ⟨n, rfl, hn, h⟩ := h
  simp -dsimp only [↓W_var, ↓W_var1, ↓W_var2, ↓W_var3, ↓W_c, ↓W_frz, ↓W_frz1, ↓W_frz2, ↓W_frz3, ↓W_frz4, ↓W_op, ↓W_call, ↓W_fn, ↓W_fn0, ↓W_fnK, ↓W_nil, ↓W_cons, ↓W_add1, ↓W_add2, ↓W_add3, ↓W_add4, ↓W_add5, ↓W_add6, ↓W_add7, ↓W_int, ↓W_int0, ↓W_mul1, ↓W_mul2, ↓W_eq1, ↓W_eq2, ↓W_eq3, ↓W_eq4, ↓W_ne1, ↓W_ne2, ↓W_ne3, ↓W_in1, ↓W_in2, ↓W_in3, ↓W_in4, ↓W_in5, ↓W_is1, ↓W_is2, ↓W_at, ↓W_atS, ↓W_ix1, ↓W_ix2, ↓W_ix3, ↓W_ix4, ↓W_sl, ↓W_on, ↓W_os, ↓W_part, ↓W_sl1, ↓W_sl2, ↓W_sl3, ↓W_sl4, ↓W_len1, ↓W_len2, ↓W_len3, ↓W_len4, ↓W_abs, ↓W_intf, ↓W_strf, ↓W_list1, ↓W_list2, ↓W_list3, ↓W_tup1, ↓W_tup2, ↓W_tup3, ↓W_max, ↓W_min, ↓W_allK, ↓W_all1, ↓W_isi1, ↓W_isi2, ↓W_k_ns, ↓W_k_bs, ↓W_k_is, ↓W_k_ss, ↓W_k_ts, ↓W_k_ls, ↓W_k_nb, ↓W_k_bb, ↓W_k_ib, ↓W_k_sb, ↓W_k_tb, ↓W_k_lb, ↓W_k_ni, ↓W_k_bi, ↓W_k_ii, ↓W_k_si, ↓W_k_ti, ↓W_k_li, ↓W_k_nt, ↓W_k_bt, ↓W_k_it, ↓W_k_st, ↓W_k_tt, ↓W_k_lt, ↓W_k_nl, ↓W_k_bl, ↓W_k_il, ↓W_k_sl, ↓W_k_tl, ↓W_k_ll, ↓W_valsK, ↓W_etup, ↓W_elst, ↓W_vals0, ↓W_vals1, ↓W_bool, ↓W_bool1, ↓W_tand, ↓W_tor, ↓W_tnot, ↓W_tru, ↓W_tru1, ↓W_tru2, ↓W_tru3, ↓W_tru4, ↓W_tru5, ↓W_tru6, ↓W_tru7, ↓W_bo, ↓W_eand, ↓W_eor, ↓W_enot, ↓W_ink, ↓W_eneg, ↓W_snil, ↓W_seq, ↓W_asg, ↓W_asg1, ↓W_asg2, ↓W_asg3, ↓W_ret, ↓W_hand1, ↓W_hand2, ↓W_hand3, ↓W_hand4, ↓W_expr, ↓W_if, ↓W_for, ↓W_any, ↓W_it1, ↓W_it2, ↓W_it3, ↓W_rg1, ↓W_lc, ↓W_bn, ↓W_yes, ↓W_ownK, ↓W_mut, ↓W_app, ↓W_ins, ↓W_setK, ↓W_stK, ↓W_setIx, ↓W_strK, ↓W_upper, ↓W_join1, ↓W_start, ↓W_slot1, ↓W_slot2, ↓W_arg1, ↓W_arg2, ↓W_sFrz, ↓W_strb, endsD, wipeE, List.foldr_cons, List.foldr_nil, List.length_cons, List.length_nil, List.map_cons, List.map_nil, List.cons_append, List.nil_append, List.append_nil, List.replicate, List.getElem?_cons_zero, List.getElem?_cons_succ, List.getElem?_nil, List.set_cons_zero, List.set_cons_succ, Nat.reduceAdd, Nat.reduceSub, Nat.zero_add, if_true, if_false, Bool.false_eq_true, Bool.not_true, Bool.not_false, true_and, and_true, List.forall_mem_cons, List.mem_cons, List.not_mem_nil, or_false, forall_eq_or_imp, forall_eq, false_and, and_false, implies_true, false_or, Option.map_some, Option.map_none, ite_self, Bool.and_true, Bool.true_and, Bool.and_false, Bool.false_and, List.forall_mem_nil, decide_true, decide_false, isNonD, signsD]
  refine take_of hn fun r _ _ _ => ?_
  simp -dsimp only [↓W_var, ↓W_var1, ↓W_var2, ↓W_var3, ↓W_c, ↓W_frz, ↓W_frz1, ↓W_frz2, ↓W_frz3, ↓W_frz4, ↓W_op, ↓W_call, ↓W_fn, ↓W_fn0, ↓W_fnK, ↓W_nil, ↓W_cons, ↓W_add1, ↓W_add2, ↓W_add3, ↓W_add4, ↓W_add5, ↓W_add6, ↓W_add7, ↓W_int, ↓W_int0, ↓W_mul1, ↓W_mul2, ↓W_eq1, ↓W_eq2, ↓W_eq3, ↓W_eq4, ↓W_ne1, ↓W_ne2, ↓W_ne3, ↓W_in1, ↓W_in2, ↓W_in3, ↓W_in4, ↓W_in5, ↓W_is1, ↓W_is2, ↓W_at, ↓W_atS, ↓W_ix1, ↓W_ix2, ↓W_ix3, ↓W_ix4, ↓W_sl, ↓W_on, ↓W_os, ↓W_part, ↓W_sl1, ↓W_sl2, ↓W_sl3, ↓W_sl4, ↓W_len1, ↓W_len2, ↓W_len3, ↓W_len4, ↓W_abs, ↓W_intf, ↓W_strf, ↓W_list1, ↓W_list2, ↓W_list3, ↓W_tup1, ↓W_tup2, ↓W_tup3, ↓W_max, ↓W_min, ↓W_allK, ↓W_all1, ↓W_isi1, ↓W_isi2, ↓W_k_ns, ↓W_k_bs, ↓W_k_is, ↓W_k_ss, ↓W_k_ts, ↓W_k_ls, ↓W_k_nb, ↓W_k_bb, ↓W_k_ib, ↓W_k_sb, ↓W_k_tb, ↓W_k_lb, ↓W_k_ni, ↓W_k_bi, ↓W_k_ii, ↓W_k_si, ↓W_k_ti, ↓W_k_li, ↓W_k_nt, ↓W_k_bt, ↓W_k_it, ↓W_k_st, ↓W_k_tt, ↓W_k_lt, ↓W_k_nl, ↓W_k_bl, ↓W_k_il, ↓W_k_sl, ↓W_k_tl, ↓W_k_ll, ↓W_valsK, ↓W_etup, ↓W_elst, ↓W_vals0, ↓W_vals1, ↓W_bool, ↓W_bool1, ↓W_tand, ↓W_tor, ↓W_tnot, ↓W_tru, ↓W_tru1, ↓W_tru2, ↓W_tru3, ↓W_tru4, ↓W_tru5, ↓W_tru6, ↓W_tru7, ↓W_bo, ↓W_eand, ↓W_eor, ↓W_enot, ↓W_ink, ↓W_eneg, ↓W_snil, ↓W_seq, ↓W_asg, ↓W_asg1, ↓W_asg2, ↓W_asg3, ↓W_ret, ↓W_hand1, ↓W_hand2, ↓W_hand3, ↓W_hand4, ↓W_expr, ↓W_if, ↓W_for, ↓W_any, ↓W_it1, ↓W_it2, ↓W_it3, ↓W_rg1, ↓W_lc, ↓W_bn, ↓W_yes, ↓W_ownK, ↓W_mut, ↓W_app, ↓W_ins, ↓W_setK, ↓W_stK, ↓W_setIx, ↓W_strK, ↓W_upper, ↓W_join1, ↓W_start, ↓W_slot1, ↓W_slot2, ↓W_arg1, ↓W_arg2, ↓W_sFrz, ↓W_strb, endsD, wipeE, List.foldr_cons, List.foldr_nil, List.length_cons, List.length_nil, List.map_cons, List.map_nil, List.cons_append, List.nil_append, List.append_nil, List.replicate, List.getElem?_cons_zero, List.getElem?_cons_succ, List.getElem?_nil, List.set_cons_zero, List.set_cons_succ, Nat.reduceAdd, Nat.reduceSub, Nat.zero_add, if_true, if_false, Bool.false_eq_true, Bool.not_true, Bool.not_false, true_and, and_true, List.forall_mem_cons, List.mem_cons, List.not_mem_nil, or_false, forall_eq_or_imp, forall_eq, false_and, and_false, implies_true, false_or, Option.map_some, Option.map_none, ite_self, Bool.and_true, Bool.true_and, Bool.and_false, Bool.false_and, List.forall_mem_nil, decide_true, decide_false, isNonD, signsD]
  exact h _


def sp__law_pick : FD := fun rs Q _ => ∃ d, rs = [.sto, .val d] ∧ ((∃ s : Str, d = .str s ∧ 0 < s.length ∧ s.length ≤ 100000 ∧ ∀ c ∈ s.cps.toList, Q (.val (.str ⟨#[c]⟩))) ∨
  (∃ ds, (d = .lst ds ∨ d = .tup ds) ∧ 0 < ds.length ∧ ds.length ≤ 100000 ∧ ∀ e ∈ ds, Q (.val e)))
theorem mono__law_pick : MonoF sp__law_pick := fun rs Q Q' E E' hq he ⟨d, h1, h2⟩ => ⟨d, h1, h2.imp (fun ⟨s, a, b, c, e⟩ => ⟨s, a, b, c, fun x m => hq _ (e x m)⟩) (fun ⟨s, a, b, c, e⟩ => ⟨s, a, b, c, fun x m => hq _ (e x m)⟩)⟩
theorem pick_str {s : Str} {Q : RV → Prop} {E : Exc → Prop} (h0 : 0 < s.length) (h1 : s.length ≤ 100000) (h : ∀ c ∈ s.cps.toList, Q (.val (.str ⟨#[c]⟩))) : app sp__law_pick [.sto, .val (.str s)] Q E := ⟨_, rfl, .inl ⟨_, rfl, h0, h1, h⟩⟩
theorem pick_lst {ds : List D} {Q : RV → Prop} {E : Exc → Prop} (h0 : 0 < ds.length) (h1 : ds.length ≤ 100000) (h : ∀ c ∈ ds, Q (.val c)) : app sp__law_pick [.sto, .val (.lst ds)] Q E := ⟨_, rfl, .inr ⟨_, .inl rfl, h0, h1, h⟩⟩

theorem ok__law_pick (T : Tx K mg A) : FnOk P w K mg base (L2.CX P w) 3 A.a__law_pick A.f__law_pick ["store", "items"] (spD K 2 sp__law_pick) := by
  refine fn_okD T.F__law_pick sc__law_pick (by decide) (fun cdv A0 outer s H E g hK hr cy => ?_)
  refine ⟨_, _, (dss_one (ds_ret (de_item cy (de_var 1) (de_call cy (ok__law_take T) mono__law_take (hr.mono (by decide)) (by rfl) T.m__law_take T.F__law_take.kp T.b__law_take (da_cons (de_var 0) (da_cons (de_len cy (by rfl) T.m_len (de_var 1)) da_nil)))))), fun rs Q Ex hl h => ?_⟩
  obtain ⟨d, rfl, h⟩ := h
  rcases h with ⟨z, rfl, h0, h1, h⟩ | ⟨ds, rfl | rfl, h0, h1, h⟩
  · simp -dsimp only [↓W_var, ↓W_var1, ↓W_var2, ↓W_var3, ↓W_c, ↓W_frz, ↓W_frz1, ↓W_frz2, ↓W_frz3, ↓W_frz4, ↓W_op, ↓W_call, ↓W_fn, ↓W_fn0, ↓W_fnK, ↓W_nil, ↓W_cons, ↓W_add1, ↓W_add2, ↓W_add3, ↓W_add4, ↓W_add5, ↓W_add6, ↓W_add7, ↓W_int, ↓W_int0, ↓W_mul1, ↓W_mul2, ↓W_eq1, ↓W_eq2, ↓W_eq3, ↓W_eq4, ↓W_ne1, ↓W_ne2, ↓W_ne3, ↓W_in1, ↓W_in2, ↓W_in3, ↓W_in4, ↓W_in5, ↓W_is1, ↓W_is2, ↓W_at, ↓W_atS, ↓W_ix1, ↓W_ix2, ↓W_ix3, ↓W_ix4, ↓W_sl, ↓W_on, ↓W_os, ↓W_part, ↓W_sl1, ↓W_sl2, ↓W_sl3, ↓W_sl4, ↓W_len1, ↓W_len2, ↓W_len3, ↓W_len4, ↓W_abs, ↓W_intf, ↓W_strf, ↓W_list1, ↓W_list2, ↓W_list3, ↓W_tup1, ↓W_tup2, ↓W_tup3, ↓W_max, ↓W_min, ↓W_allK, ↓W_all1, ↓W_isi1, ↓W_isi2, ↓W_k_ns, ↓W_k_bs, ↓W_k_is, ↓W_k_ss, ↓W_k_ts, ↓W_k_ls, ↓W_k_nb, ↓W_k_bb, ↓W_k_ib, ↓W_k_sb, ↓W_k_tb, ↓W_k_lb, ↓W_k_ni, ↓W_k_bi, ↓W_k_ii, ↓W_k_si, ↓W_k_ti, ↓W_k_li, ↓W_k_nt, ↓W_k_bt, ↓W_k_it, ↓W_k_st, ↓W_k_tt, ↓W_k_lt, ↓W_k_nl, ↓W_k_bl, ↓W_k_il, ↓W_k_sl, ↓W_k_tl, ↓W_k_ll, ↓W_valsK, ↓W_etup, ↓W_elst, ↓W_vals0, ↓W_vals1, ↓W_bool, ↓W_bool1, ↓W_tand, ↓W_tor, ↓W_tnot, ↓W_tru, ↓W_tru1, ↓W_tru2, ↓W_tru3, ↓W_tru4, ↓W_tru5, ↓W_tru6, ↓W_tru7, ↓W_bo, ↓W_eand, ↓W_eor, ↓W_enot, ↓W_ink, ↓W_eneg, ↓W_snil, ↓W_seq, ↓W_asg, ↓W_asg1, ↓W_asg2, ↓W_asg3, ↓W_ret, ↓W_hand1, ↓W_hand2, ↓W_hand3, ↓W_hand4, ↓W_expr, ↓W_if, ↓W_for, ↓W_any, ↓W_it1, ↓W_it2, ↓W_it3, ↓W_rg1, ↓W_lc, ↓W_bn, ↓W_yes, ↓W_ownK, ↓W_mut, ↓W_app, ↓W_ins, ↓W_setK, ↓W_stK, ↓W_setIx, ↓W_strK, ↓W_upper, ↓W_join1, ↓W_start, ↓W_slot1, ↓W_slot2, ↓W_arg1, ↓W_arg2, ↓W_sFrz, ↓W_strb, endsD, wipeE, List.foldr_cons, List.foldr_nil, List.length_cons, List.length_nil, List.map_cons, List.map_nil, List.cons_append, List.nil_append, List.append_nil, List.replicate, List.getElem?_cons_zero, List.getElem?_cons_succ, List.getElem?_nil, List.set_cons_zero, List.set_cons_succ, Nat.reduceAdd, Nat.reduceSub, Nat.zero_add, if_true, if_false, Bool.false_eq_true, Bool.not_true, Bool.not_false, true_and, and_true, List.forall_mem_cons, List.mem_cons, List.not_mem_nil, or_false, forall_eq_or_imp, forall_eq, false_and, and_false, implies_true, false_or, Option.map_some, Option.map_none, ite_self, Bool.and_true, Bool.true_and, Bool.and_false, Bool.false_and, List.forall_mem_nil, decide_true, decide_false, isNonD, signsD]
    refine ⟨h1, take_of (by omega) fun r h2 h3 h4 => ?_⟩
    simp -dsimp only [↓W_var, ↓W_var1, ↓W_var2, ↓W_var3, ↓W_c, ↓W_frz, ↓W_frz1, ↓W_frz2, ↓W_frz3, ↓W_frz4, ↓W_op, ↓W_call, ↓W_fn, ↓W_fn0, ↓W_fnK, ↓W_nil, ↓W_cons, ↓W_add1, ↓W_add2, ↓W_add3, ↓W_add4, ↓W_add5, ↓W_add6, ↓W_add7, ↓W_int, ↓W_int0, ↓W_mul1, ↓W_mul2, ↓W_eq1, ↓W_eq2, ↓W_eq3, ↓W_eq4, ↓W_ne1, ↓W_ne2, ↓W_ne3, ↓W_in1, ↓W_in2, ↓W_in3, ↓W_in4, ↓W_in5, ↓W_is1, ↓W_is2, ↓W_at, ↓W_atS, ↓W_ix1, ↓W_ix2, ↓W_ix3, ↓W_ix4, ↓W_sl, ↓W_on, ↓W_os, ↓W_part, ↓W_sl1, ↓W_sl2, ↓W_sl3, ↓W_sl4, ↓W_len1, ↓W_len2, ↓W_len3, ↓W_len4, ↓W_abs, ↓W_intf, ↓W_strf, ↓W_list1, ↓W_list2, ↓W_list3, ↓W_tup1, ↓W_tup2, ↓W_tup3, ↓W_max, ↓W_min, ↓W_allK, ↓W_all1, ↓W_isi1, ↓W_isi2, ↓W_k_ns, ↓W_k_bs, ↓W_k_is, ↓W_k_ss, ↓W_k_ts, ↓W_k_ls, ↓W_k_nb, ↓W_k_bb, ↓W_k_ib, ↓W_k_sb, ↓W_k_tb, ↓W_k_lb, ↓W_k_ni, ↓W_k_bi, ↓W_k_ii, ↓W_k_si, ↓W_k_ti, ↓W_k_li, ↓W_k_nt, ↓W_k_bt, ↓W_k_it, ↓W_k_st, ↓W_k_tt, ↓W_k_lt, ↓W_k_nl, ↓W_k_bl, ↓W_k_il, ↓W_k_sl, ↓W_k_tl, ↓W_k_ll, ↓W_valsK, ↓W_etup, ↓W_elst, ↓W_vals0, ↓W_vals1, ↓W_bool, ↓W_bool1, ↓W_tand, ↓W_tor, ↓W_tnot, ↓W_tru, ↓W_tru1, ↓W_tru2, ↓W_tru3, ↓W_tru4, ↓W_tru5, ↓W_tru6, ↓W_tru7, ↓W_bo, ↓W_eand, ↓W_eor, ↓W_enot, ↓W_ink, ↓W_eneg, ↓W_snil, ↓W_seq, ↓W_asg, ↓W_asg1, ↓W_asg2, ↓W_asg3, ↓W_ret, ↓W_hand1, ↓W_hand2, ↓W_hand3, ↓W_hand4, ↓W_expr, ↓W_if, ↓W_for, ↓W_any, ↓W_it1, ↓W_it2, ↓W_it3, ↓W_rg1, ↓W_lc, ↓W_bn, ↓W_yes, ↓W_ownK, ↓W_mut, ↓W_app, ↓W_ins, ↓W_setK, ↓W_stK, ↓W_setIx, ↓W_strK, ↓W_upper, ↓W_join1, ↓W_start, ↓W_slot1, ↓W_slot2, ↓W_arg1, ↓W_arg2, ↓W_sFrz, ↓W_strb, endsD, wipeE, List.foldr_cons, List.foldr_nil, List.length_cons, List.length_nil, List.map_cons, List.map_nil, List.cons_append, List.nil_append, List.append_nil, List.replicate, List.getElem?_cons_zero, List.getElem?_cons_succ, List.getElem?_nil, List.set_cons_zero, List.set_cons_succ, Nat.reduceAdd, Nat.reduceSub, Nat.zero_add, if_true, if_false, Bool.false_eq_true, Bool.not_true, Bool.not_false, true_and, and_true, List.forall_mem_cons, List.mem_cons, List.not_mem_nil, or_false, forall_eq_or_imp, forall_eq, false_and, and_false, implies_true, false_or, Option.map_some, Option.map_none, ite_self, Bool.and_true, Bool.true_and, Bool.and_false, Bool.false_and, List.forall_mem_nil, decide_true, decide_false, isNonD, signsD]
    exact ⟨h1, atS_mem h2 (by rw [chars_len]; by_cases h5 : (2 : Int) ≤ z.length <;> omega) h⟩
  · simp -dsimp only [↓W_var, ↓W_var1, ↓W_var2, ↓W_var3, ↓W_c, ↓W_frz, ↓W_frz1, ↓W_frz2, ↓W_frz3, ↓W_frz4, ↓W_op, ↓W_call, ↓W_fn, ↓W_fn0, ↓W_fnK, ↓W_nil, ↓W_cons, ↓W_add1, ↓W_add2, ↓W_add3, ↓W_add4, ↓W_add5, ↓W_add6, ↓W_add7, ↓W_int, ↓W_int0, ↓W_mul1, ↓W_mul2, ↓W_eq1, ↓W_eq2, ↓W_eq3, ↓W_eq4, ↓W_ne1, ↓W_ne2, ↓W_ne3, ↓W_in1, ↓W_in2, ↓W_in3, ↓W_in4, ↓W_in5, ↓W_is1, ↓W_is2, ↓W_at, ↓W_atS, ↓W_ix1, ↓W_ix2, ↓W_ix3, ↓W_ix4, ↓W_sl, ↓W_on, ↓W_os, ↓W_part, ↓W_sl1, ↓W_sl2, ↓W_sl3, ↓W_sl4, ↓W_len1, ↓W_len2, ↓W_len3, ↓W_len4, ↓W_abs, ↓W_intf, ↓W_strf, ↓W_list1, ↓W_list2, ↓W_list3, ↓W_tup1, ↓W_tup2, ↓W_tup3, ↓W_max, ↓W_min, ↓W_allK, ↓W_all1, ↓W_isi1, ↓W_isi2, ↓W_k_ns, ↓W_k_bs, ↓W_k_is, ↓W_k_ss, ↓W_k_ts, ↓W_k_ls, ↓W_k_nb, ↓W_k_bb, ↓W_k_ib, ↓W_k_sb, ↓W_k_tb, ↓W_k_lb, ↓W_k_ni, ↓W_k_bi, ↓W_k_ii, ↓W_k_si, ↓W_k_ti, ↓W_k_li, ↓W_k_nt, ↓W_k_bt, ↓W_k_it, ↓W_k_st, ↓W_k_tt, ↓W_k_lt, ↓W_k_nl, ↓W_k_bl, ↓W_k_il, ↓W_k_sl, ↓W_k_tl, ↓W_k_ll, ↓W_valsK, ↓W_etup, ↓W_elst, ↓W_vals0, ↓W_vals1, ↓W_bool, ↓W_bool1, ↓W_tand, ↓W_tor, ↓W_tnot, ↓W_tru, ↓W_tru1, ↓W_tru2, ↓W_tru3, ↓W_tru4, ↓W_tru5, ↓W_tru6, ↓W_tru7, ↓W_bo, ↓W_eand, ↓W_eor, ↓W_enot, ↓W_ink, ↓W_eneg, ↓W_snil, ↓W_seq, ↓W_asg, ↓W_asg1, ↓W_asg2, ↓W_asg3, ↓W_ret, ↓W_hand1, ↓W_hand2, ↓W_hand3, ↓W_hand4, ↓W_expr, ↓W_if, ↓W_for, ↓W_any, ↓W_it1, ↓W_it2, ↓W_it3, ↓W_rg1, ↓W_lc, ↓W_bn, ↓W_yes, ↓W_ownK, ↓W_mut, ↓W_app, ↓W_ins, ↓W_setK, ↓W_stK, ↓W_setIx, ↓W_strK, ↓W_upper, ↓W_join1, ↓W_start, ↓W_slot1, ↓W_slot2, ↓W_arg1, ↓W_arg2, ↓W_sFrz, ↓W_strb, endsD, wipeE, List.foldr_cons, List.foldr_nil, List.length_cons, List.length_nil, List.map_cons, List.map_nil, List.cons_append, List.nil_append, List.append_nil, List.replicate, List.getElem?_cons_zero, List.getElem?_cons_succ, List.getElem?_nil, List.set_cons_zero, List.set_cons_succ, Nat.reduceAdd, Nat.reduceSub, Nat.zero_add, if_true, if_false, Bool.false_eq_true, Bool.not_true, Bool.not_false, true_and, and_true, List.forall_mem_cons, List.mem_cons, List.not_mem_nil, or_false, forall_eq_or_imp, forall_eq, false_and, and_false, implies_true, false_or, Option.map_some, Option.map_none, ite_self, Bool.and_true, Bool.true_and, Bool.and_false, Bool.false_and, List.forall_mem_nil, decide_true, decide_false, isNonD, signsD]
    refine take_of (by omega) fun r h2 h3 h4 => ?_
    simp -dsimp only [↓W_var, ↓W_var1, ↓W_var2, ↓W_var3, ↓W_c, ↓W_frz, ↓W_frz1, ↓W_frz2, ↓W_frz3, ↓W_frz4, ↓W_op, ↓W_call, ↓W_fn, ↓W_fn0, ↓W_fnK, ↓W_nil, ↓W_cons, ↓W_add1, ↓W_add2, ↓W_add3, ↓W_add4, ↓W_add5, ↓W_add6, ↓W_add7, ↓W_int, ↓W_int0, ↓W_mul1, ↓W_mul2, ↓W_eq1, ↓W_eq2, ↓W_eq3, ↓W_eq4, ↓W_ne1, ↓W_ne2, ↓W_ne3, ↓W_in1, ↓W_in2, ↓W_in3, ↓W_in4, ↓W_in5, ↓W_is1, ↓W_is2, ↓W_at, ↓W_atS, ↓W_ix1, ↓W_ix2, ↓W_ix3, ↓W_ix4, ↓W_sl, ↓W_on, ↓W_os, ↓W_part, ↓W_sl1, ↓W_sl2, ↓W_sl3, ↓W_sl4, ↓W_len1, ↓W_len2, ↓W_len3, ↓W_len4, ↓W_abs, ↓W_intf, ↓W_strf, ↓W_list1, ↓W_list2, ↓W_list3, ↓W_tup1, ↓W_tup2, ↓W_tup3, ↓W_max, ↓W_min, ↓W_allK, ↓W_all1, ↓W_isi1, ↓W_isi2, ↓W_k_ns, ↓W_k_bs, ↓W_k_is, ↓W_k_ss, ↓W_k_ts, ↓W_k_ls, ↓W_k_nb, ↓W_k_bb, ↓W_k_ib, ↓W_k_sb, ↓W_k_tb, ↓W_k_lb, ↓W_k_ni, ↓W_k_bi, ↓W_k_ii, ↓W_k_si, ↓W_k_ti, ↓W_k_li, ↓W_k_nt, ↓W_k_bt, ↓W_k_it, ↓W_k_st, ↓W_k_tt, ↓W_k_lt, ↓W_k_nl, ↓W_k_bl, ↓W_k_il, ↓W_k_sl, ↓W_k_tl, ↓W_k_ll, ↓W_valsK, ↓W_etup, ↓W_elst, ↓W_vals0, ↓W_vals1, ↓W_bool, ↓W_bool1, ↓W_tand, ↓W_tor, ↓W_tnot, ↓W_tru, ↓W_tru1, ↓W_tru2, ↓W_tru3, ↓W_tru4, ↓W_tru5, ↓W_tru6, ↓W_tru7, ↓W_bo, ↓W_eand, ↓W_eor, ↓W_enot, ↓W_ink, ↓W_eneg, ↓W_snil, ↓W_seq, ↓W_asg, ↓W_asg1, ↓W_asg2, ↓W_asg3, ↓W_ret, ↓W_hand1, ↓W_hand2, ↓W_hand3, ↓W_hand4, ↓W_expr, ↓W_if, ↓W_for, ↓W_any, ↓W_it1, ↓W_it2, ↓W_it3, ↓W_rg1, ↓W_lc, ↓W_bn, ↓W_yes, ↓W_ownK, ↓W_mut, ↓W_app, ↓W_ins, ↓W_setK, ↓W_stK, ↓W_setIx, ↓W_strK, ↓W_upper, ↓W_join1, ↓W_start, ↓W_slot1, ↓W_slot2, ↓W_arg1, ↓W_arg2, ↓W_sFrz, ↓W_strb, endsD, wipeE, List.foldr_cons, List.foldr_nil, List.length_cons, List.length_nil, List.map_cons, List.map_nil, List.cons_append, List.nil_append, List.append_nil, List.replicate, List.getElem?_cons_zero, List.getElem?_cons_succ, List.getElem?_nil, List.set_cons_zero, List.set_cons_succ, Nat.reduceAdd, Nat.reduceSub, Nat.zero_add, if_true, if_false, Bool.false_eq_true, Bool.not_true, Bool.not_false, true_and, and_true, List.forall_mem_cons, List.mem_cons, List.not_mem_nil, or_false, forall_eq_or_imp, forall_eq, false_and, and_false, implies_true, false_or, Option.map_some, Option.map_none, ite_self, Bool.and_true, Bool.true_and, Bool.and_false, Bool.false_and, List.forall_mem_nil, decide_true, decide_false, isNonD, signsD]
    exact atK_mem h2 (by by_cases h5 : (2 : Int) ≤ ds.length <;> omega) h
  · simp -dsimp only [↓W_var, ↓W_var1, ↓W_var2, ↓W_var3, ↓W_c, ↓W_frz, ↓W_frz1, ↓W_frz2, ↓W_frz3, ↓W_frz4, ↓W_op, ↓W_call, ↓W_fn, ↓W_fn0, ↓W_fnK, ↓W_nil, ↓W_cons, ↓W_add1, ↓W_add2, ↓W_add3, ↓W_add4, ↓W_add5, ↓W_add6, ↓W_add7, ↓W_int, ↓W_int0, ↓W_mul1, ↓W_mul2, ↓W_eq1, ↓W_eq2, ↓W_eq3, ↓W_eq4, ↓W_ne1, ↓W_ne2, ↓W_ne3, ↓W_in1, ↓W_in2, ↓W_in3, ↓W_in4, ↓W_in5, ↓W_is1, ↓W_is2, ↓W_at, ↓W_atS, ↓W_ix1, ↓W_ix2, ↓W_ix3, ↓W_ix4, ↓W_sl, ↓W_on, ↓W_os, ↓W_part, ↓W_sl1, ↓W_sl2, ↓W_sl3, ↓W_sl4, ↓W_len1, ↓W_len2, ↓W_len3, ↓W_len4, ↓W_abs, ↓W_intf, ↓W_strf, ↓W_list1, ↓W_list2, ↓W_list3, ↓W_tup1, ↓W_tup2, ↓W_tup3, ↓W_max, ↓W_min, ↓W_allK, ↓W_all1, ↓W_isi1, ↓W_isi2, ↓W_k_ns, ↓W_k_bs, ↓W_k_is, ↓W_k_ss, ↓W_k_ts, ↓W_k_ls, ↓W_k_nb, ↓W_k_bb, ↓W_k_ib, ↓W_k_sb, ↓W_k_tb, ↓W_k_lb, ↓W_k_ni, ↓W_k_bi, ↓W_k_ii, ↓W_k_si, ↓W_k_ti, ↓W_k_li, ↓W_k_nt, ↓W_k_bt, ↓W_k_it, ↓W_k_st, ↓W_k_tt, ↓W_k_lt, ↓W_k_nl, ↓W_k_bl, ↓W_k_il, ↓W_k_sl, ↓W_k_tl, ↓W_k_ll, ↓W_valsK, ↓W_etup, ↓W_elst, ↓W_vals0, ↓W_vals1, ↓W_bool, ↓W_bool1, ↓W_tand, ↓W_tor, ↓W_tnot, ↓W_tru, ↓W_tru1, ↓W_tru2, ↓W_tru3, ↓W_tru4, ↓W_tru5, ↓W_tru6, ↓W_tru7, ↓W_bo, ↓W_eand, ↓W_eor, ↓W_enot, ↓W_ink, ↓W_eneg, ↓W_snil, ↓W_seq, ↓W_asg, ↓W_asg1, ↓W_asg2, ↓W_asg3, ↓W_ret, ↓W_hand1, ↓W_hand2, ↓W_hand3, ↓W_hand4, ↓W_expr, ↓W_if, ↓W_for, ↓W_any, ↓W_it1, ↓W_it2, ↓W_it3, ↓W_rg1, ↓W_lc, ↓W_bn, ↓W_yes, ↓W_ownK, ↓W_mut, ↓W_app, ↓W_ins, ↓W_setK, ↓W_stK, ↓W_setIx, ↓W_strK, ↓W_upper, ↓W_join1, ↓W_start, ↓W_slot1, ↓W_slot2, ↓W_arg1, ↓W_arg2, ↓W_sFrz, ↓W_strb, endsD, wipeE, List.foldr_cons, List.foldr_nil, List.length_cons, List.length_nil, List.map_cons, List.map_nil, List.cons_append, List.nil_append, List.append_nil, List.replicate, List.getElem?_cons_zero, List.getElem?_cons_succ, List.getElem?_nil, List.set_cons_zero, List.set_cons_succ, Nat.reduceAdd, Nat.reduceSub, Nat.zero_add, if_true, if_false, Bool.false_eq_true, Bool.not_true, Bool.not_false, true_and, and_true, List.forall_mem_cons, List.mem_cons, List.not_mem_nil, or_false, forall_eq_or_imp, forall_eq, false_and, and_false, implies_true, false_or, Option.map_some, Option.map_none, ite_self, Bool.and_true, Bool.true_and, Bool.and_false, Bool.false_and, List.forall_mem_nil, decide_true, decide_false, isNonD, signsD]
    refine take_of (by omega) fun r h2 h3 h4 => ?_
    simp -dsimp only [↓W_var, ↓W_var1, ↓W_var2, ↓W_var3, ↓W_c, ↓W_frz, ↓W_frz1, ↓W_frz2, ↓W_frz3, ↓W_frz4, ↓W_op, ↓W_call, ↓W_fn, ↓W_fn0, ↓W_fnK, ↓W_nil, ↓W_cons, ↓W_add1, ↓W_add2, ↓W_add3, ↓W_add4, ↓W_add5, ↓W_add6, ↓W_add7, ↓W_int, ↓W_int0, ↓W_mul1, ↓W_mul2, ↓W_eq1, ↓W_eq2, ↓W_eq3, ↓W_eq4, ↓W_ne1, ↓W_ne2, ↓W_ne3, ↓W_in1, ↓W_in2, ↓W_in3, ↓W_in4, ↓W_in5, ↓W_is1, ↓W_is2, ↓W_at, ↓W_atS, ↓W_ix1, ↓W_ix2, ↓W_ix3, ↓W_ix4, ↓W_sl, ↓W_on, ↓W_os, ↓W_part, ↓W_sl1, ↓W_sl2, ↓W_sl3, ↓W_sl4, ↓W_len1, ↓W_len2, ↓W_len3, ↓W_len4, ↓W_abs, ↓W_intf, ↓W_strf, ↓W_list1, ↓W_list2, ↓W_list3, ↓W_tup1, ↓W_tup2, ↓W_tup3, ↓W_max, ↓W_min, ↓W_allK, ↓W_all1, ↓W_isi1, ↓W_isi2, ↓W_k_ns, ↓W_k_bs, ↓W_k_is, ↓W_k_ss, ↓W_k_ts, ↓W_k_ls, ↓W_k_nb, ↓W_k_bb, ↓W_k_ib, ↓W_k_sb, ↓W_k_tb, ↓W_k_lb, ↓W_k_ni, ↓W_k_bi, ↓W_k_ii, ↓W_k_si, ↓W_k_ti, ↓W_k_li, ↓W_k_nt, ↓W_k_bt, ↓W_k_it, ↓W_k_st, ↓W_k_tt, ↓W_k_lt, ↓W_k_nl, ↓W_k_bl, ↓W_k_il, ↓W_k_sl, ↓W_k_tl, ↓W_k_ll, ↓W_valsK, ↓W_etup, ↓W_elst, ↓W_vals0, ↓W_vals1, ↓W_bool, ↓W_bool1, ↓W_tand, ↓W_tor, ↓W_tnot, ↓W_tru, ↓W_tru1, ↓W_tru2, ↓W_tru3, ↓W_tru4, ↓W_tru5, ↓W_tru6, ↓W_tru7, ↓W_bo, ↓W_eand, ↓W_eor, ↓W_enot, ↓W_ink, ↓W_eneg, ↓W_snil, ↓W_seq, ↓W_asg, ↓W_asg1, ↓W_asg2, ↓W_asg3, ↓W_ret, ↓W_hand1, ↓W_hand2, ↓W_hand3, ↓W_hand4, ↓W_expr, ↓W_if, ↓W_for, ↓W_any, ↓W_it1, ↓W_it2, ↓W_it3, ↓W_rg1, ↓W_lc, ↓W_bn, ↓W_yes, ↓W_ownK, ↓W_mut, ↓W_app, ↓W_ins, ↓W_setK, ↓W_stK, ↓W_setIx, ↓W_strK, ↓W_upper, ↓W_join1, ↓W_start, ↓W_slot1, ↓W_slot2, ↓W_arg1, ↓W_arg2, ↓W_sFrz, ↓W_strb, endsD, wipeE, List.foldr_cons, List.foldr_nil, List.length_cons, List.length_nil, List.map_cons, List.map_nil, List.cons_append, List.nil_append, List.append_nil, List.replicate, List.getElem?_cons_zero, List.getElem?_cons_succ, List.getElem?_nil, List.set_cons_zero, List.set_cons_succ, Nat.reduceAdd, Nat.reduceSub, Nat.zero_add, if_true, if_false, Bool.false_eq_true, Bool.not_true, Bool.not_false, true_and, and_true, List.forall_mem_cons, List.mem_cons, List.not_mem_nil, or_false, forall_eq_or_imp, forall_eq, false_and, and_false, implies_true, false_or, Option.map_some, Option.map_none, ite_self, Bool.and_true, Bool.true_and, Bool.and_false, Bool.false_and, List.forall_mem_nil, decide_true, decide_false, isNonD, signsD]
    exact atK_mem h2 (by by_cases h5 : (2 : Int) ≤ ds.length <;> omega) h


def sp__law_inorder : FD := fun rs Q _ => ∃ ds, rs = [.sto, .val (.lst ds)] ∧ Q (.own ds) ∧ Q (.val (.tup ds))
theorem mono__law_inorder : MonoF sp__law_inorder := fun rs Q Q' E E' hq he ⟨n, h1, h2, h3⟩ => ⟨n, h1, hq _ h2, hq _ h3⟩

theorem ok__law_inorder (T : Tx K mg A) : FnOk P w K mg base (L2.CX P w) 4 A.a__law_inorder A.f__law_inorder ["store", "items"] (spD K 2 sp__law_inorder) := by
  refine fn_okD T.F__law_inorder sc__law_inorder (by decide) (fun cdv A0 outer s H E g hK hr cy => ?_)
  refine ⟨_, _, (dss_cons (ds_if (dt_tru cy (de_call cy (ok__law_once T) mono__law_once (hr.mono (by decide)) (by rfl) T.m__law_once T.F__law_once.kp T.b__law_once (da_cons (de_var 0) (da_cons de_int da_nil)))) (dss_one (ds_ret (de_tupf cy (by rfl) T.m_tuple (de_var 1)))) dss_nil)
    (dss_one (ds_ret (de_listf cy (by rfl) T.m_list (de_var 1))))), fun rs Q Ex hl h => ?_⟩
  obtain ⟨ds, rfl, h1, h2⟩ := h
  simp -dsimp only [↓W_var, ↓W_var1, ↓W_var2, ↓W_var3, ↓W_c, ↓W_frz, ↓W_frz1, ↓W_frz2, ↓W_frz3, ↓W_frz4, ↓W_op, ↓W_call, ↓W_fn, ↓W_fn0, ↓W_fnK, ↓W_nil, ↓W_cons, ↓W_add1, ↓W_add2, ↓W_add3, ↓W_add4, ↓W_add5, ↓W_add6, ↓W_add7, ↓W_int, ↓W_int0, ↓W_mul1, ↓W_mul2, ↓W_eq1, ↓W_eq2, ↓W_eq3, ↓W_eq4, ↓W_ne1, ↓W_ne2, ↓W_ne3, ↓W_in1, ↓W_in2, ↓W_in3, ↓W_in4, ↓W_in5, ↓W_is1, ↓W_is2, ↓W_at, ↓W_atS, ↓W_ix1, ↓W_ix2, ↓W_ix3, ↓W_ix4, ↓W_sl, ↓W_on, ↓W_os, ↓W_part, ↓W_sl1, ↓W_sl2, ↓W_sl3, ↓W_sl4, ↓W_len1, ↓W_len2, ↓W_len3, ↓W_len4, ↓W_abs, ↓W_intf, ↓W_strf, ↓W_list1, ↓W_list2, ↓W_list3, ↓W_tup1, ↓W_tup2, ↓W_tup3, ↓W_max, ↓W_min, ↓W_allK, ↓W_all1, ↓W_isi1, ↓W_isi2, ↓W_k_ns, ↓W_k_bs, ↓W_k_is, ↓W_k_ss, ↓W_k_ts, ↓W_k_ls, ↓W_k_nb, ↓W_k_bb, ↓W_k_ib, ↓W_k_sb, ↓W_k_tb, ↓W_k_lb, ↓W_k_ni, ↓W_k_bi, ↓W_k_ii, ↓W_k_si, ↓W_k_ti, ↓W_k_li, ↓W_k_nt, ↓W_k_bt, ↓W_k_it, ↓W_k_st, ↓W_k_tt, ↓W_k_lt, ↓W_k_nl, ↓W_k_bl, ↓W_k_il, ↓W_k_sl, ↓W_k_tl, ↓W_k_ll, ↓W_valsK, ↓W_etup, ↓W_elst, ↓W_vals0, ↓W_vals1, ↓W_bool, ↓W_bool1, ↓W_tand, ↓W_tor, ↓W_tnot, ↓W_tru, ↓W_tru1, ↓W_tru2, ↓W_tru3, ↓W_tru4, ↓W_tru5, ↓W_tru6, ↓W_tru7, ↓W_bo, ↓W_eand, ↓W_eor, ↓W_enot, ↓W_ink, ↓W_eneg, ↓W_snil, ↓W_seq, ↓W_asg, ↓W_asg1, ↓W_asg2, ↓W_asg3, ↓W_ret, ↓W_hand1, ↓W_hand2, ↓W_hand3, ↓W_hand4, ↓W_expr, ↓W_if, ↓W_for, ↓W_any, ↓W_it1, ↓W_it2, ↓W_it3, ↓W_rg1, ↓W_lc, ↓W_bn, ↓W_yes, ↓W_ownK, ↓W_mut, ↓W_app, ↓W_ins, ↓W_setK, ↓W_stK, ↓W_setIx, ↓W_strK, ↓W_upper, ↓W_join1, ↓W_start, ↓W_slot1, ↓W_slot2, ↓W_arg1, ↓W_arg2, ↓W_sFrz, ↓W_strb, endsD, wipeE, List.foldr_cons, List.foldr_nil, List.length_cons, List.length_nil, List.map_cons, List.map_nil, List.cons_append, List.nil_append, List.append_nil, List.replicate, List.getElem?_cons_zero, List.getElem?_cons_succ, List.getElem?_nil, List.set_cons_zero, List.set_cons_succ, Nat.reduceAdd, Nat.reduceSub, Nat.zero_add, if_true, if_false, Bool.false_eq_true, Bool.not_true, Bool.not_false, true_and, and_true, List.forall_mem_cons, List.mem_cons, List.not_mem_nil, or_false, forall_eq_or_imp, forall_eq, false_and, and_false, implies_true, false_or, Option.map_some, Option.map_none, ite_self, Bool.and_true, Bool.true_and, Bool.and_false, Bool.false_and, List.forall_mem_nil, decide_true, decide_false, isNonD, signsD]
  refine ⟨2, rfl, by decide, fun b => ?_⟩
  cases b
  · simp -dsimp only [↓W_var, ↓W_var1, ↓W_var2, ↓W_var3, ↓W_c, ↓W_frz, ↓W_frz1, ↓W_frz2, ↓W_frz3, ↓W_frz4, ↓W_op, ↓W_call, ↓W_fn, ↓W_fn0, ↓W_fnK, ↓W_nil, ↓W_cons, ↓W_add1, ↓W_add2, ↓W_add3, ↓W_add4, ↓W_add5, ↓W_add6, ↓W_add7, ↓W_int, ↓W_int0, ↓W_mul1, ↓W_mul2, ↓W_eq1, ↓W_eq2, ↓W_eq3, ↓W_eq4, ↓W_ne1, ↓W_ne2, ↓W_ne3, ↓W_in1, ↓W_in2, ↓W_in3, ↓W_in4, ↓W_in5, ↓W_is1, ↓W_is2, ↓W_at, ↓W_atS, ↓W_ix1, ↓W_ix2, ↓W_ix3, ↓W_ix4, ↓W_sl, ↓W_on, ↓W_os, ↓W_part, ↓W_sl1, ↓W_sl2, ↓W_sl3, ↓W_sl4, ↓W_len1, ↓W_len2, ↓W_len3, ↓W_len4, ↓W_abs, ↓W_intf, ↓W_strf, ↓W_list1, ↓W_list2, ↓W_list3, ↓W_tup1, ↓W_tup2, ↓W_tup3, ↓W_max, ↓W_min, ↓W_allK, ↓W_all1, ↓W_isi1, ↓W_isi2, ↓W_k_ns, ↓W_k_bs, ↓W_k_is, ↓W_k_ss, ↓W_k_ts, ↓W_k_ls, ↓W_k_nb, ↓W_k_bb, ↓W_k_ib, ↓W_k_sb, ↓W_k_tb, ↓W_k_lb, ↓W_k_ni, ↓W_k_bi, ↓W_k_ii, ↓W_k_si, ↓W_k_ti, ↓W_k_li, ↓W_k_nt, ↓W_k_bt, ↓W_k_it, ↓W_k_st, ↓W_k_tt, ↓W_k_lt, ↓W_k_nl, ↓W_k_bl, ↓W_k_il, ↓W_k_sl, ↓W_k_tl, ↓W_k_ll, ↓W_valsK, ↓W_etup, ↓W_elst, ↓W_vals0, ↓W_vals1, ↓W_bool, ↓W_bool1, ↓W_tand, ↓W_tor, ↓W_tnot, ↓W_tru, ↓W_tru1, ↓W_tru2, ↓W_tru3, ↓W_tru4, ↓W_tru5, ↓W_tru6, ↓W_tru7, ↓W_bo, ↓W_eand, ↓W_eor, ↓W_enot, ↓W_ink, ↓W_eneg, ↓W_snil, ↓W_seq, ↓W_asg, ↓W_asg1, ↓W_asg2, ↓W_asg3, ↓W_ret, ↓W_hand1, ↓W_hand2, ↓W_hand3, ↓W_hand4, ↓W_expr, ↓W_if, ↓W_for, ↓W_any, ↓W_it1, ↓W_it2, ↓W_it3, ↓W_rg1, ↓W_lc, ↓W_bn, ↓W_yes, ↓W_ownK, ↓W_mut, ↓W_app, ↓W_ins, ↓W_setK, ↓W_stK, ↓W_setIx, ↓W_strK, ↓W_upper, ↓W_join1, ↓W_start, ↓W_slot1, ↓W_slot2, ↓W_arg1, ↓W_arg2, ↓W_sFrz, ↓W_strb, endsD, wipeE, List.foldr_cons, List.foldr_nil, List.length_cons, List.length_nil, List.map_cons, List.map_nil, List.cons_append, List.nil_append, List.append_nil, List.replicate, List.getElem?_cons_zero, List.getElem?_cons_succ, List.getElem?_nil, List.set_cons_zero, List.set_cons_succ, Nat.reduceAdd, Nat.reduceSub, Nat.zero_add, if_true, if_false, Bool.false_eq_true, Bool.not_true, Bool.not_false, true_and, and_true, List.forall_mem_cons, List.mem_cons, List.not_mem_nil, or_false, forall_eq_or_imp, forall_eq, false_and, and_false, implies_true, false_or, Option.map_some, Option.map_none, ite_self, Bool.and_true, Bool.true_and, Bool.and_false, Bool.false_and, List.forall_mem_nil, decide_true, decide_false, isNonD, signsD]
    exact h1
  · simp -dsimp only [↓W_var, ↓W_var1, ↓W_var2, ↓W_var3, ↓W_c, ↓W_frz, ↓W_frz1, ↓W_frz2, ↓W_frz3, ↓W_frz4, ↓W_op, ↓W_call, ↓W_fn, ↓W_fn0, ↓W_fnK, ↓W_nil, ↓W_cons, ↓W_add1, ↓W_add2, ↓W_add3, ↓W_add4, ↓W_add5, ↓W_add6, ↓W_add7, ↓W_int, ↓W_int0, ↓W_mul1, ↓W_mul2, ↓W_eq1, ↓W_eq2, ↓W_eq3, ↓W_eq4, ↓W_ne1, ↓W_ne2, ↓W_ne3, ↓W_in1, ↓W_in2, ↓W_in3, ↓W_in4, ↓W_in5, ↓W_is1, ↓W_is2, ↓W_at, ↓W_atS, ↓W_ix1, ↓W_ix2, ↓W_ix3, ↓W_ix4, ↓W_sl, ↓W_on, ↓W_os, ↓W_part, ↓W_sl1, ↓W_sl2, ↓W_sl3, ↓W_sl4, ↓W_len1, ↓W_len2, ↓W_len3, ↓W_len4, ↓W_abs, ↓W_intf, ↓W_strf, ↓W_list1, ↓W_list2, ↓W_list3, ↓W_tup1, ↓W_tup2, ↓W_tup3, ↓W_max, ↓W_min, ↓W_allK, ↓W_all1, ↓W_isi1, ↓W_isi2, ↓W_k_ns, ↓W_k_bs, ↓W_k_is, ↓W_k_ss, ↓W_k_ts, ↓W_k_ls, ↓W_k_nb, ↓W_k_bb, ↓W_k_ib, ↓W_k_sb, ↓W_k_tb, ↓W_k_lb, ↓W_k_ni, ↓W_k_bi, ↓W_k_ii, ↓W_k_si, ↓W_k_ti, ↓W_k_li, ↓W_k_nt, ↓W_k_bt, ↓W_k_it, ↓W_k_st, ↓W_k_tt, ↓W_k_lt, ↓W_k_nl, ↓W_k_bl, ↓W_k_il, ↓W_k_sl, ↓W_k_tl, ↓W_k_ll, ↓W_valsK, ↓W_etup, ↓W_elst, ↓W_vals0, ↓W_vals1, ↓W_bool, ↓W_bool1, ↓W_tand, ↓W_tor, ↓W_tnot, ↓W_tru, ↓W_tru1, ↓W_tru2, ↓W_tru3, ↓W_tru4, ↓W_tru5, ↓W_tru6, ↓W_tru7, ↓W_bo, ↓W_eand, ↓W_eor, ↓W_enot, ↓W_ink, ↓W_eneg, ↓W_snil, ↓W_seq, ↓W_asg, ↓W_asg1, ↓W_asg2, ↓W_asg3, ↓W_ret, ↓W_hand1, ↓W_hand2, ↓W_hand3, ↓W_hand4, ↓W_expr, ↓W_if, ↓W_for, ↓W_any, ↓W_it1, ↓W_it2, ↓W_it3, ↓W_rg1, ↓W_lc, ↓W_bn, ↓W_yes, ↓W_ownK, ↓W_mut, ↓W_app, ↓W_ins, ↓W_setK, ↓W_stK, ↓W_setIx, ↓W_strK, ↓W_upper, ↓W_join1, ↓W_start, ↓W_slot1, ↓W_slot2, ↓W_arg1, ↓W_arg2, ↓W_sFrz, ↓W_strb, endsD, wipeE, List.foldr_cons, List.foldr_nil, List.length_cons, List.length_nil, List.map_cons, List.map_nil, List.cons_append, List.nil_append, List.append_nil, List.replicate, List.getElem?_cons_zero, List.getElem?_cons_succ, List.getElem?_nil, List.set_cons_zero, List.set_cons_succ, Nat.reduceAdd, Nat.reduceSub, Nat.zero_add, if_true, if_false, Bool.false_eq_true, Bool.not_true, Bool.not_false, true_and, and_true, List.forall_mem_cons, List.mem_cons, List.not_mem_nil, or_false, forall_eq_or_imp, forall_eq, false_and, and_false, implies_true, false_or, Option.map_some, Option.map_none, ite_self, Bool.and_true, Bool.true_and, Bool.and_false, Bool.false_and, List.forall_mem_nil, decide_true, decide_false, isNonD, signsD]
    exact h2


def sp__law_number : FD := fun rs Q _ => ∃ lo hi : Int, rs = [.sto, .val (.int lo), .val (.int hi)] ∧ hi - lo < 1073741823 ∧ ∀ r : Int, lo ≤ r → (r ≤ hi ∨ r = lo) → Q (.val (.int r))
theorem mono__law_number : MonoF sp__law_number := fun rs Q Q' E E' hq he ⟨n, m, h1, h2, h3⟩ => ⟨n, m, h1, h2, fun b x y => hq _ (h3 b x y)⟩
theorem number_of {lo hi : Int} {Q : RV → Prop} {E : Exc → Prop} (h0 : lo ≤ hi) (h1 : hi - lo < 1073741823) (h : ∀ r : Int, lo ≤ r → r ≤ hi → Q (.val (.int r))) : app sp__law_number [.sto, .val (.int lo), .val (.int hi)] Q E := ⟨lo, hi, rfl, h1, fun r a b => h r a (by omega)⟩

theorem ok__law_number (T : Tx K mg A) : FnOk P w K mg base (L2.CX P w) 3 A.a__law_number A.f__law_number ["store", "low", "high"] (spD K 3 sp__law_number) := by
  refine fn_okD T.F__law_number sc__law_number (by decide) (fun cdv A0 outer s H E g hK hr cy => ?_)
  refine ⟨_, _, (dss_cons (ds_asg 3 (de_call cy (ok__law_take T) mono__law_take (hr.mono (by decide)) (by rfl) T.m__law_take T.F__law_take.kp T.b__law_take (da_cons (de_var 0) (da_cons de_int da_nil))) sc__law_number.nd)
    (dss_cons (ds_if (DW.dt (dw_or (dt_eq cy (de_var 3) de_int) (dw_or1 (dt_le cy (de_var 2) (de_var 1))))) (dss_one (ds_ret (de_var 1))) dss_nil)
    (dss_cons (ds_if (dt_eq cy (de_var 3) de_int) (dss_one (ds_ret (de_var 2))) dss_nil)
    (dss_one (ds_ret (de_add cy (de_var 1) (de_call cy (ok__law_take T) mono__law_take (hr.mono (by decide)) (by rfl) T.m__law_take T.F__law_take.kp T.b__law_take (da_cons (de_var 0) (da_cons (de_add cy (de_sub cy (de_var 2) (de_var 1)) de_int) da_nil))))))))), fun rs Q Ex hl h => ?_⟩
  obtain ⟨lo, hi, rfl, hn, h⟩ := h
  simp -dsimp only [↓W_var, ↓W_var1, ↓W_var2, ↓W_var3, ↓W_c, ↓W_frz, ↓W_frz1, ↓W_frz2, ↓W_frz3, ↓W_frz4, ↓W_op, ↓W_call, ↓W_fn, ↓W_fn0, ↓W_fnK, ↓W_nil, ↓W_cons, ↓W_add1, ↓W_add2, ↓W_add3, ↓W_add4, ↓W_add5, ↓W_add6, ↓W_add7, ↓W_int, ↓W_int0, ↓W_mul1, ↓W_mul2, ↓W_eq1, ↓W_eq2, ↓W_eq3, ↓W_eq4, ↓W_ne1, ↓W_ne2, ↓W_ne3, ↓W_in1, ↓W_in2, ↓W_in3, ↓W_in4, ↓W_in5, ↓W_is1, ↓W_is2, ↓W_at, ↓W_atS, ↓W_ix1, ↓W_ix2, ↓W_ix3, ↓W_ix4, ↓W_sl, ↓W_on, ↓W_os, ↓W_part, ↓W_sl1, ↓W_sl2, ↓W_sl3, ↓W_sl4, ↓W_len1, ↓W_len2, ↓W_len3, ↓W_len4, ↓W_abs, ↓W_intf, ↓W_strf, ↓W_list1, ↓W_list2, ↓W_list3, ↓W_tup1, ↓W_tup2, ↓W_tup3, ↓W_max, ↓W_min, ↓W_allK, ↓W_all1, ↓W_isi1, ↓W_isi2, ↓W_k_ns, ↓W_k_bs, ↓W_k_is, ↓W_k_ss, ↓W_k_ts, ↓W_k_ls, ↓W_k_nb, ↓W_k_bb, ↓W_k_ib, ↓W_k_sb, ↓W_k_tb, ↓W_k_lb, ↓W_k_ni, ↓W_k_bi, ↓W_k_ii, ↓W_k_si, ↓W_k_ti, ↓W_k_li, ↓W_k_nt, ↓W_k_bt, ↓W_k_it, ↓W_k_st, ↓W_k_tt, ↓W_k_lt, ↓W_k_nl, ↓W_k_bl, ↓W_k_il, ↓W_k_sl, ↓W_k_tl, ↓W_k_ll, ↓W_valsK, ↓W_etup, ↓W_elst, ↓W_vals0, ↓W_vals1, ↓W_bool, ↓W_bool1, ↓W_tand, ↓W_tor, ↓W_tnot, ↓W_tru, ↓W_tru1, ↓W_tru2, ↓W_tru3, ↓W_tru4, ↓W_tru5, ↓W_tru6, ↓W_tru7, ↓W_bo, ↓W_eand, ↓W_eor, ↓W_enot, ↓W_ink, ↓W_eneg, ↓W_snil, ↓W_seq, ↓W_asg, ↓W_asg1, ↓W_asg2, ↓W_asg3, ↓W_ret, ↓W_hand1, ↓W_hand2, ↓W_hand3, ↓W_hand4, ↓W_expr, ↓W_if, ↓W_for, ↓W_any, ↓W_it1, ↓W_it2, ↓W_it3, ↓W_rg1, ↓W_lc, ↓W_bn, ↓W_yes, ↓W_ownK, ↓W_mut, ↓W_app, ↓W_ins, ↓W_setK, ↓W_stK, ↓W_setIx, ↓W_strK, ↓W_upper, ↓W_join1, ↓W_start, ↓W_slot1, ↓W_slot2, ↓W_arg1, ↓W_arg2, ↓W_sFrz, ↓W_strb, endsD, wipeE, List.foldr_cons, List.foldr_nil, List.length_cons, List.length_nil, List.map_cons, List.map_nil, List.cons_append, List.nil_append, List.append_nil, List.replicate, List.getElem?_cons_zero, List.getElem?_cons_succ, List.getElem?_nil, List.set_cons_zero, List.set_cons_succ, Nat.reduceAdd, Nat.reduceSub, Nat.zero_add, if_true, if_false, Bool.false_eq_true, Bool.not_true, Bool.not_false, true_and, and_true, List.forall_mem_cons, List.mem_cons, List.not_mem_nil, or_false, forall_eq_or_imp, forall_eq, false_and, and_false, implies_true, false_or, Option.map_some, Option.map_none, ite_self, Bool.and_true, Bool.true_and, Bool.and_false, Bool.false_and, List.forall_mem_nil, decide_true, decide_false, isNonD, signsD]
  refine take_of (by omega) fun r _ _ _ => ?_
  simp -dsimp only [↓W_var, ↓W_var1, ↓W_var2, ↓W_var3, ↓W_c, ↓W_frz, ↓W_frz1, ↓W_frz2, ↓W_frz3, ↓W_frz4, ↓W_op, ↓W_call, ↓W_fn, ↓W_fn0, ↓W_fnK, ↓W_nil, ↓W_cons, ↓W_add1, ↓W_add2, ↓W_add3, ↓W_add4, ↓W_add5, ↓W_add6, ↓W_add7, ↓W_int, ↓W_int0, ↓W_mul1, ↓W_mul2, ↓W_eq1, ↓W_eq2, ↓W_eq3, ↓W_eq4, ↓W_ne1, ↓W_ne2, ↓W_ne3, ↓W_in1, ↓W_in2, ↓W_in3, ↓W_in4, ↓W_in5, ↓W_is1, ↓W_is2, ↓W_at, ↓W_atS, ↓W_ix1, ↓W_ix2, ↓W_ix3, ↓W_ix4, ↓W_sl, ↓W_on, ↓W_os, ↓W_part, ↓W_sl1, ↓W_sl2, ↓W_sl3, ↓W_sl4, ↓W_len1, ↓W_len2, ↓W_len3, ↓W_len4, ↓W_abs, ↓W_intf, ↓W_strf, ↓W_list1, ↓W_list2, ↓W_list3, ↓W_tup1, ↓W_tup2, ↓W_tup3, ↓W_max, ↓W_min, ↓W_allK, ↓W_all1, ↓W_isi1, ↓W_isi2, ↓W_k_ns, ↓W_k_bs, ↓W_k_is, ↓W_k_ss, ↓W_k_ts, ↓W_k_ls, ↓W_k_nb, ↓W_k_bb, ↓W_k_ib, ↓W_k_sb, ↓W_k_tb, ↓W_k_lb, ↓W_k_ni, ↓W_k_bi, ↓W_k_ii, ↓W_k_si, ↓W_k_ti, ↓W_k_li, ↓W_k_nt, ↓W_k_bt, ↓W_k_it, ↓W_k_st, ↓W_k_tt, ↓W_k_lt, ↓W_k_nl, ↓W_k_bl, ↓W_k_il, ↓W_k_sl, ↓W_k_tl, ↓W_k_ll, ↓W_valsK, ↓W_etup, ↓W_elst, ↓W_vals0, ↓W_vals1, ↓W_bool, ↓W_bool1, ↓W_tand, ↓W_tor, ↓W_tnot, ↓W_tru, ↓W_tru1, ↓W_tru2, ↓W_tru3, ↓W_tru4, ↓W_tru5, ↓W_tru6, ↓W_tru7, ↓W_bo, ↓W_eand, ↓W_eor, ↓W_enot, ↓W_ink, ↓W_eneg, ↓W_snil, ↓W_seq, ↓W_asg, ↓W_asg1, ↓W_asg2, ↓W_asg3, ↓W_ret, ↓W_hand1, ↓W_hand2, ↓W_hand3, ↓W_hand4, ↓W_expr, ↓W_if, ↓W_for, ↓W_any, ↓W_it1, ↓W_it2, ↓W_it3, ↓W_rg1, ↓W_lc, ↓W_bn, ↓W_yes, ↓W_ownK, ↓W_mut, ↓W_app, ↓W_ins, ↓W_setK, ↓W_stK, ↓W_setIx, ↓W_strK, ↓W_upper, ↓W_join1, ↓W_start, ↓W_slot1, ↓W_slot2, ↓W_arg1, ↓W_arg2, ↓W_sFrz, ↓W_strb, endsD, wipeE, List.foldr_cons, List.foldr_nil, List.length_cons, List.length_nil, List.map_cons, List.map_nil, List.cons_append, List.nil_append, List.append_nil, List.replicate, List.getElem?_cons_zero, List.getElem?_cons_succ, List.getElem?_nil, List.set_cons_zero, List.set_cons_succ, Nat.reduceAdd, Nat.reduceSub, Nat.zero_add, if_true, if_false, Bool.false_eq_true, Bool.not_true, Bool.not_false, true_and, and_true, List.forall_mem_cons, List.mem_cons, List.not_mem_nil, or_false, forall_eq_or_imp, forall_eq, false_and, and_false, implies_true, false_or, Option.map_some, Option.map_none, ite_self, Bool.and_true, Bool.true_and, Bool.and_false, Bool.false_and, List.forall_mem_nil, decide_true, decide_false, isNonD, signsD]
  by_cases c1 : r = 0
  · rw [decide_eq_true c1]
    simp -dsimp only [↓W_var, ↓W_var1, ↓W_var2, ↓W_var3, ↓W_c, ↓W_frz, ↓W_frz1, ↓W_frz2, ↓W_frz3, ↓W_frz4, ↓W_op, ↓W_call, ↓W_fn, ↓W_fn0, ↓W_fnK, ↓W_nil, ↓W_cons, ↓W_add1, ↓W_add2, ↓W_add3, ↓W_add4, ↓W_add5, ↓W_add6, ↓W_add7, ↓W_int, ↓W_int0, ↓W_mul1, ↓W_mul2, ↓W_eq1, ↓W_eq2, ↓W_eq3, ↓W_eq4, ↓W_ne1, ↓W_ne2, ↓W_ne3, ↓W_in1, ↓W_in2, ↓W_in3, ↓W_in4, ↓W_in5, ↓W_is1, ↓W_is2, ↓W_at, ↓W_atS, ↓W_ix1, ↓W_ix2, ↓W_ix3, ↓W_ix4, ↓W_sl, ↓W_on, ↓W_os, ↓W_part, ↓W_sl1, ↓W_sl2, ↓W_sl3, ↓W_sl4, ↓W_len1, ↓W_len2, ↓W_len3, ↓W_len4, ↓W_abs, ↓W_intf, ↓W_strf, ↓W_list1, ↓W_list2, ↓W_list3, ↓W_tup1, ↓W_tup2, ↓W_tup3, ↓W_max, ↓W_min, ↓W_allK, ↓W_all1, ↓W_isi1, ↓W_isi2, ↓W_k_ns, ↓W_k_bs, ↓W_k_is, ↓W_k_ss, ↓W_k_ts, ↓W_k_ls, ↓W_k_nb, ↓W_k_bb, ↓W_k_ib, ↓W_k_sb, ↓W_k_tb, ↓W_k_lb, ↓W_k_ni, ↓W_k_bi, ↓W_k_ii, ↓W_k_si, ↓W_k_ti, ↓W_k_li, ↓W_k_nt, ↓W_k_bt, ↓W_k_it, ↓W_k_st, ↓W_k_tt, ↓W_k_lt, ↓W_k_nl, ↓W_k_bl, ↓W_k_il, ↓W_k_sl, ↓W_k_tl, ↓W_k_ll, ↓W_valsK, ↓W_etup, ↓W_elst, ↓W_vals0, ↓W_vals1, ↓W_bool, ↓W_bool1, ↓W_tand, ↓W_tor, ↓W_tnot, ↓W_tru, ↓W_tru1, ↓W_tru2, ↓W_tru3, ↓W_tru4, ↓W_tru5, ↓W_tru6, ↓W_tru7, ↓W_bo, ↓W_eand, ↓W_eor, ↓W_enot, ↓W_ink, ↓W_eneg, ↓W_snil, ↓W_seq, ↓W_asg, ↓W_asg1, ↓W_asg2, ↓W_asg3, ↓W_ret, ↓W_hand1, ↓W_hand2, ↓W_hand3, ↓W_hand4, ↓W_expr, ↓W_if, ↓W_for, ↓W_any, ↓W_it1, ↓W_it2, ↓W_it3, ↓W_rg1, ↓W_lc, ↓W_bn, ↓W_yes, ↓W_ownK, ↓W_mut, ↓W_app, ↓W_ins, ↓W_setK, ↓W_stK, ↓W_setIx, ↓W_strK, ↓W_upper, ↓W_join1, ↓W_start, ↓W_slot1, ↓W_slot2, ↓W_arg1, ↓W_arg2, ↓W_sFrz, ↓W_strb, endsD, wipeE, List.foldr_cons, List.foldr_nil, List.length_cons, List.length_nil, List.map_cons, List.map_nil, List.cons_append, List.nil_append, List.append_nil, List.replicate, List.getElem?_cons_zero, List.getElem?_cons_succ, List.getElem?_nil, List.set_cons_zero, List.set_cons_succ, Nat.reduceAdd, Nat.reduceSub, Nat.zero_add, if_true, if_false, Bool.false_eq_true, Bool.not_true, Bool.not_false, true_and, and_true, List.forall_mem_cons, List.mem_cons, List.not_mem_nil, or_false, forall_eq_or_imp, forall_eq, false_and, and_false, implies_true, false_or, Option.map_some, Option.map_none, ite_self, Bool.and_true, Bool.true_and, Bool.and_false, Bool.false_and, List.forall_mem_nil, decide_true, decide_false, isNonD, signsD]
    exact h _ (by omega) (.inr rfl)
  rw [decide_eq_false c1]
  simp -dsimp only [↓W_var, ↓W_var1, ↓W_var2, ↓W_var3, ↓W_c, ↓W_frz, ↓W_frz1, ↓W_frz2, ↓W_frz3, ↓W_frz4, ↓W_op, ↓W_call, ↓W_fn, ↓W_fn0, ↓W_fnK, ↓W_nil, ↓W_cons, ↓W_add1, ↓W_add2, ↓W_add3, ↓W_add4, ↓W_add5, ↓W_add6, ↓W_add7, ↓W_int, ↓W_int0, ↓W_mul1, ↓W_mul2, ↓W_eq1, ↓W_eq2, ↓W_eq3, ↓W_eq4, ↓W_ne1, ↓W_ne2, ↓W_ne3, ↓W_in1, ↓W_in2, ↓W_in3, ↓W_in4, ↓W_in5, ↓W_is1, ↓W_is2, ↓W_at, ↓W_atS, ↓W_ix1, ↓W_ix2, ↓W_ix3, ↓W_ix4, ↓W_sl, ↓W_on, ↓W_os, ↓W_part, ↓W_sl1, ↓W_sl2, ↓W_sl3, ↓W_sl4, ↓W_len1, ↓W_len2, ↓W_len3, ↓W_len4, ↓W_abs, ↓W_intf, ↓W_strf, ↓W_list1, ↓W_list2, ↓W_list3, ↓W_tup1, ↓W_tup2, ↓W_tup3, ↓W_max, ↓W_min, ↓W_allK, ↓W_all1, ↓W_isi1, ↓W_isi2, ↓W_k_ns, ↓W_k_bs, ↓W_k_is, ↓W_k_ss, ↓W_k_ts, ↓W_k_ls, ↓W_k_nb, ↓W_k_bb, ↓W_k_ib, ↓W_k_sb, ↓W_k_tb, ↓W_k_lb, ↓W_k_ni, ↓W_k_bi, ↓W_k_ii, ↓W_k_si, ↓W_k_ti, ↓W_k_li, ↓W_k_nt, ↓W_k_bt, ↓W_k_it, ↓W_k_st, ↓W_k_tt, ↓W_k_lt, ↓W_k_nl, ↓W_k_bl, ↓W_k_il, ↓W_k_sl, ↓W_k_tl, ↓W_k_ll, ↓W_valsK, ↓W_etup, ↓W_elst, ↓W_vals0, ↓W_vals1, ↓W_bool, ↓W_bool1, ↓W_tand, ↓W_tor, ↓W_tnot, ↓W_tru, ↓W_tru1, ↓W_tru2, ↓W_tru3, ↓W_tru4, ↓W_tru5, ↓W_tru6, ↓W_tru7, ↓W_bo, ↓W_eand, ↓W_eor, ↓W_enot, ↓W_ink, ↓W_eneg, ↓W_snil, ↓W_seq, ↓W_asg, ↓W_asg1, ↓W_asg2, ↓W_asg3, ↓W_ret, ↓W_hand1, ↓W_hand2, ↓W_hand3, ↓W_hand4, ↓W_expr, ↓W_if, ↓W_for, ↓W_any, ↓W_it1, ↓W_it2, ↓W_it3, ↓W_rg1, ↓W_lc, ↓W_bn, ↓W_yes, ↓W_ownK, ↓W_mut, ↓W_app, ↓W_ins, ↓W_setK, ↓W_stK, ↓W_setIx, ↓W_strK, ↓W_upper, ↓W_join1, ↓W_start, ↓W_slot1, ↓W_slot2, ↓W_arg1, ↓W_arg2, ↓W_sFrz, ↓W_strb, endsD, wipeE, List.foldr_cons, List.foldr_nil, List.length_cons, List.length_nil, List.map_cons, List.map_nil, List.cons_append, List.nil_append, List.append_nil, List.replicate, List.getElem?_cons_zero, List.getElem?_cons_succ, List.getElem?_nil, List.set_cons_zero, List.set_cons_succ, Nat.reduceAdd, Nat.reduceSub, Nat.zero_add, if_true, if_false, Bool.false_eq_true, Bool.not_true, Bool.not_false, true_and, and_true, List.forall_mem_cons, List.mem_cons, List.not_mem_nil, or_false, forall_eq_or_imp, forall_eq, false_and, and_false, implies_true, false_or, Option.map_some, Option.map_none, ite_self, Bool.and_true, Bool.true_and, Bool.and_false, Bool.false_and, List.forall_mem_nil, decide_true, decide_false, isNonD, signsD]
  by_cases c2 : hi ≤ lo
  · rw [decide_eq_true c2]
    simp -dsimp only [↓W_var, ↓W_var1, ↓W_var2, ↓W_var3, ↓W_c, ↓W_frz, ↓W_frz1, ↓W_frz2, ↓W_frz3, ↓W_frz4, ↓W_op, ↓W_call, ↓W_fn, ↓W_fn0, ↓W_fnK, ↓W_nil, ↓W_cons, ↓W_add1, ↓W_add2, ↓W_add3, ↓W_add4, ↓W_add5, ↓W_add6, ↓W_add7, ↓W_int, ↓W_int0, ↓W_mul1, ↓W_mul2, ↓W_eq1, ↓W_eq2, ↓W_eq3, ↓W_eq4, ↓W_ne1, ↓W_ne2, ↓W_ne3, ↓W_in1, ↓W_in2, ↓W_in3, ↓W_in4, ↓W_in5, ↓W_is1, ↓W_is2, ↓W_at, ↓W_atS, ↓W_ix1, ↓W_ix2, ↓W_ix3, ↓W_ix4, ↓W_sl, ↓W_on, ↓W_os, ↓W_part, ↓W_sl1, ↓W_sl2, ↓W_sl3, ↓W_sl4, ↓W_len1, ↓W_len2, ↓W_len3, ↓W_len4, ↓W_abs, ↓W_intf, ↓W_strf, ↓W_list1, ↓W_list2, ↓W_list3, ↓W_tup1, ↓W_tup2, ↓W_tup3, ↓W_max, ↓W_min, ↓W_allK, ↓W_all1, ↓W_isi1, ↓W_isi2, ↓W_k_ns, ↓W_k_bs, ↓W_k_is, ↓W_k_ss, ↓W_k_ts, ↓W_k_ls, ↓W_k_nb, ↓W_k_bb, ↓W_k_ib, ↓W_k_sb, ↓W_k_tb, ↓W_k_lb, ↓W_k_ni, ↓W_k_bi, ↓W_k_ii, ↓W_k_si, ↓W_k_ti, ↓W_k_li, ↓W_k_nt, ↓W_k_bt, ↓W_k_it, ↓W_k_st, ↓W_k_tt, ↓W_k_lt, ↓W_k_nl, ↓W_k_bl, ↓W_k_il, ↓W_k_sl, ↓W_k_tl, ↓W_k_ll, ↓W_valsK, ↓W_etup, ↓W_elst, ↓W_vals0, ↓W_vals1, ↓W_bool, ↓W_bool1, ↓W_tand, ↓W_tor, ↓W_tnot, ↓W_tru, ↓W_tru1, ↓W_tru2, ↓W_tru3, ↓W_tru4, ↓W_tru5, ↓W_tru6, ↓W_tru7, ↓W_bo, ↓W_eand, ↓W_eor, ↓W_enot, ↓W_ink, ↓W_eneg, ↓W_snil, ↓W_seq, ↓W_asg, ↓W_asg1, ↓W_asg2, ↓W_asg3, ↓W_ret, ↓W_hand1, ↓W_hand2, ↓W_hand3, ↓W_hand4, ↓W_expr, ↓W_if, ↓W_for, ↓W_any, ↓W_it1, ↓W_it2, ↓W_it3, ↓W_rg1, ↓W_lc, ↓W_bn, ↓W_yes, ↓W_ownK, ↓W_mut, ↓W_app, ↓W_ins, ↓W_setK, ↓W_stK, ↓W_setIx, ↓W_strK, ↓W_upper, ↓W_join1, ↓W_start, ↓W_slot1, ↓W_slot2, ↓W_arg1, ↓W_arg2, ↓W_sFrz, ↓W_strb, endsD, wipeE, List.foldr_cons, List.foldr_nil, List.length_cons, List.length_nil, List.map_cons, List.map_nil, List.cons_append, List.nil_append, List.append_nil, List.replicate, List.getElem?_cons_zero, List.getElem?_cons_succ, List.getElem?_nil, List.set_cons_zero, List.set_cons_succ, Nat.reduceAdd, Nat.reduceSub, Nat.zero_add, if_true, if_false, Bool.false_eq_true, Bool.not_true, Bool.not_false, true_and, and_true, List.forall_mem_cons, List.mem_cons, List.not_mem_nil, or_false, forall_eq_or_imp, forall_eq, false_and, and_false, implies_true, false_or, Option.map_some, Option.map_none, ite_self, Bool.and_true, Bool.true_and, Bool.and_false, Bool.false_and, List.forall_mem_nil, decide_true, decide_false, isNonD, signsD]
    exact h _ (by omega) (.inr rfl)
  rw [decide_eq_false c2]
  simp -dsimp only [↓W_var, ↓W_var1, ↓W_var2, ↓W_var3, ↓W_c, ↓W_frz, ↓W_frz1, ↓W_frz2, ↓W_frz3, ↓W_frz4, ↓W_op, ↓W_call, ↓W_fn, ↓W_fn0, ↓W_fnK, ↓W_nil, ↓W_cons, ↓W_add1, ↓W_add2, ↓W_add3, ↓W_add4, ↓W_add5, ↓W_add6, ↓W_add7, ↓W_int, ↓W_int0, ↓W_mul1, ↓W_mul2, ↓W_eq1, ↓W_eq2, ↓W_eq3, ↓W_eq4, ↓W_ne1, ↓W_ne2, ↓W_ne3, ↓W_in1, ↓W_in2, ↓W_in3, ↓W_in4, ↓W_in5, ↓W_is1, ↓W_is2, ↓W_at, ↓W_atS, ↓W_ix1, ↓W_ix2, ↓W_ix3, ↓W_ix4, ↓W_sl, ↓W_on, ↓W_os, ↓W_part, ↓W_sl1, ↓W_sl2, ↓W_sl3, ↓W_sl4, ↓W_len1, ↓W_len2, ↓W_len3, ↓W_len4, ↓W_abs, ↓W_intf, ↓W_strf, ↓W_list1, ↓W_list2, ↓W_list3, ↓W_tup1, ↓W_tup2, ↓W_tup3, ↓W_max, ↓W_min, ↓W_allK, ↓W_all1, ↓W_isi1, ↓W_isi2, ↓W_k_ns, ↓W_k_bs, ↓W_k_is, ↓W_k_ss, ↓W_k_ts, ↓W_k_ls, ↓W_k_nb, ↓W_k_bb, ↓W_k_ib, ↓W_k_sb, ↓W_k_tb, ↓W_k_lb, ↓W_k_ni, ↓W_k_bi, ↓W_k_ii, ↓W_k_si, ↓W_k_ti, ↓W_k_li, ↓W_k_nt, ↓W_k_bt, ↓W_k_it, ↓W_k_st, ↓W_k_tt, ↓W_k_lt, ↓W_k_nl, ↓W_k_bl, ↓W_k_il, ↓W_k_sl, ↓W_k_tl, ↓W_k_ll, ↓W_valsK, ↓W_etup, ↓W_elst, ↓W_vals0, ↓W_vals1, ↓W_bool, ↓W_bool1, ↓W_tand, ↓W_tor, ↓W_tnot, ↓W_tru, ↓W_tru1, ↓W_tru2, ↓W_tru3, ↓W_tru4, ↓W_tru5, ↓W_tru6, ↓W_tru7, ↓W_bo, ↓W_eand, ↓W_eor, ↓W_enot, ↓W_ink, ↓W_eneg, ↓W_snil, ↓W_seq, ↓W_asg, ↓W_asg1, ↓W_asg2, ↓W_asg3, ↓W_ret, ↓W_hand1, ↓W_hand2, ↓W_hand3, ↓W_hand4, ↓W_expr, ↓W_if, ↓W_for, ↓W_any, ↓W_it1, ↓W_it2, ↓W_it3, ↓W_rg1, ↓W_lc, ↓W_bn, ↓W_yes, ↓W_ownK, ↓W_mut, ↓W_app, ↓W_ins, ↓W_setK, ↓W_stK, ↓W_setIx, ↓W_strK, ↓W_upper, ↓W_join1, ↓W_start, ↓W_slot1, ↓W_slot2, ↓W_arg1, ↓W_arg2, ↓W_sFrz, ↓W_strb, endsD, wipeE, List.foldr_cons, List.foldr_nil, List.length_cons, List.length_nil, List.map_cons, List.map_nil, List.cons_append, List.nil_append, List.append_nil, List.replicate, List.getElem?_cons_zero, List.getElem?_cons_succ, List.getElem?_nil, List.set_cons_zero, List.set_cons_succ, Nat.reduceAdd, Nat.reduceSub, Nat.zero_add, if_true, if_false, Bool.false_eq_true, Bool.not_true, Bool.not_false, true_and, and_true, List.forall_mem_cons, List.mem_cons, List.not_mem_nil, or_false, forall_eq_or_imp, forall_eq, false_and, and_false, implies_true, false_or, Option.map_some, Option.map_none, ite_self, Bool.and_true, Bool.true_and, Bool.and_false, Bool.false_and, List.forall_mem_nil, decide_true, decide_false, isNonD, signsD]
  by_cases c3 : r = 1
  · rw [decide_eq_true c3]
    simp -dsimp only [↓W_var, ↓W_var1, ↓W_var2, ↓W_var3, ↓W_c, ↓W_frz, ↓W_frz1, ↓W_frz2, ↓W_frz3, ↓W_frz4, ↓W_op, ↓W_call, ↓W_fn, ↓W_fn0, ↓W_fnK, ↓W_nil, ↓W_cons, ↓W_add1, ↓W_add2, ↓W_add3, ↓W_add4, ↓W_add5, ↓W_add6, ↓W_add7, ↓W_int, ↓W_int0, ↓W_mul1, ↓W_mul2, ↓W_eq1, ↓W_eq2, ↓W_eq3, ↓W_eq4, ↓W_ne1, ↓W_ne2, ↓W_ne3, ↓W_in1, ↓W_in2, ↓W_in3, ↓W_in4, ↓W_in5, ↓W_is1, ↓W_is2, ↓W_at, ↓W_atS, ↓W_ix1, ↓W_ix2, ↓W_ix3, ↓W_ix4, ↓W_sl, ↓W_on, ↓W_os, ↓W_part, ↓W_sl1, ↓W_sl2, ↓W_sl3, ↓W_sl4, ↓W_len1, ↓W_len2, ↓W_len3, ↓W_len4, ↓W_abs, ↓W_intf, ↓W_strf, ↓W_list1, ↓W_list2, ↓W_list3, ↓W_tup1, ↓W_tup2, ↓W_tup3, ↓W_max, ↓W_min, ↓W_allK, ↓W_all1, ↓W_isi1, ↓W_isi2, ↓W_k_ns, ↓W_k_bs, ↓W_k_is, ↓W_k_ss, ↓W_k_ts, ↓W_k_ls, ↓W_k_nb, ↓W_k_bb, ↓W_k_ib, ↓W_k_sb, ↓W_k_tb, ↓W_k_lb, ↓W_k_ni, ↓W_k_bi, ↓W_k_ii, ↓W_k_si, ↓W_k_ti, ↓W_k_li, ↓W_k_nt, ↓W_k_bt, ↓W_k_it, ↓W_k_st, ↓W_k_tt, ↓W_k_lt, ↓W_k_nl, ↓W_k_bl, ↓W_k_il, ↓W_k_sl, ↓W_k_tl, ↓W_k_ll, ↓W_valsK, ↓W_etup, ↓W_elst, ↓W_vals0, ↓W_vals1, ↓W_bool, ↓W_bool1, ↓W_tand, ↓W_tor, ↓W_tnot, ↓W_tru, ↓W_tru1, ↓W_tru2, ↓W_tru3, ↓W_tru4, ↓W_tru5, ↓W_tru6, ↓W_tru7, ↓W_bo, ↓W_eand, ↓W_eor, ↓W_enot, ↓W_ink, ↓W_eneg, ↓W_snil, ↓W_seq, ↓W_asg, ↓W_asg1, ↓W_asg2, ↓W_asg3, ↓W_ret, ↓W_hand1, ↓W_hand2, ↓W_hand3, ↓W_hand4, ↓W_expr, ↓W_if, ↓W_for, ↓W_any, ↓W_it1, ↓W_it2, ↓W_it3, ↓W_rg1, ↓W_lc, ↓W_bn, ↓W_yes, ↓W_ownK, ↓W_mut, ↓W_app, ↓W_ins, ↓W_setK, ↓W_stK, ↓W_setIx, ↓W_strK, ↓W_upper, ↓W_join1, ↓W_start, ↓W_slot1, ↓W_slot2, ↓W_arg1, ↓W_arg2, ↓W_sFrz, ↓W_strb, endsD, wipeE, List.foldr_cons, List.foldr_nil, List.length_cons, List.length_nil, List.map_cons, List.map_nil, List.cons_append, List.nil_append, List.append_nil, List.replicate, List.getElem?_cons_zero, List.getElem?_cons_succ, List.getElem?_nil, List.set_cons_zero, List.set_cons_succ, Nat.reduceAdd, Nat.reduceSub, Nat.zero_add, if_true, if_false, Bool.false_eq_true, Bool.not_true, Bool.not_false, true_and, and_true, List.forall_mem_cons, List.mem_cons, List.not_mem_nil, or_false, forall_eq_or_imp, forall_eq, false_and, and_false, implies_true, false_or, Option.map_some, Option.map_none, ite_self, Bool.and_true, Bool.true_and, Bool.and_false, Bool.false_and, List.forall_mem_nil, decide_true, decide_false, isNonD, signsD]
    exact h _ (by omega) (.inl (Int.le_refl _))
  rw [decide_eq_false c3]
  simp -dsimp only [↓W_var, ↓W_var1, ↓W_var2, ↓W_var3, ↓W_c, ↓W_frz, ↓W_frz1, ↓W_frz2, ↓W_frz3, ↓W_frz4, ↓W_op, ↓W_call, ↓W_fn, ↓W_fn0, ↓W_fnK, ↓W_nil, ↓W_cons, ↓W_add1, ↓W_add2, ↓W_add3, ↓W_add4, ↓W_add5, ↓W_add6, ↓W_add7, ↓W_int, ↓W_int0, ↓W_mul1, ↓W_mul2, ↓W_eq1, ↓W_eq2, ↓W_eq3, ↓W_eq4, ↓W_ne1, ↓W_ne2, ↓W_ne3, ↓W_in1, ↓W_in2, ↓W_in3, ↓W_in4, ↓W_in5, ↓W_is1, ↓W_is2, ↓W_at, ↓W_atS, ↓W_ix1, ↓W_ix2, ↓W_ix3, ↓W_ix4, ↓W_sl, ↓W_on, ↓W_os, ↓W_part, ↓W_sl1, ↓W_sl2, ↓W_sl3, ↓W_sl4, ↓W_len1, ↓W_len2, ↓W_len3, ↓W_len4, ↓W_abs, ↓W_intf, ↓W_strf, ↓W_list1, ↓W_list2, ↓W_list3, ↓W_tup1, ↓W_tup2, ↓W_tup3, ↓W_max, ↓W_min, ↓W_allK, ↓W_all1, ↓W_isi1, ↓W_isi2, ↓W_k_ns, ↓W_k_bs, ↓W_k_is, ↓W_k_ss, ↓W_k_ts, ↓W_k_ls, ↓W_k_nb, ↓W_k_bb, ↓W_k_ib, ↓W_k_sb, ↓W_k_tb, ↓W_k_lb, ↓W_k_ni, ↓W_k_bi, ↓W_k_ii, ↓W_k_si, ↓W_k_ti, ↓W_k_li, ↓W_k_nt, ↓W_k_bt, ↓W_k_it, ↓W_k_st, ↓W_k_tt, ↓W_k_lt, ↓W_k_nl, ↓W_k_bl, ↓W_k_il, ↓W_k_sl, ↓W_k_tl, ↓W_k_ll, ↓W_valsK, ↓W_etup, ↓W_elst, ↓W_vals0, ↓W_vals1, ↓W_bool, ↓W_bool1, ↓W_tand, ↓W_tor, ↓W_tnot, ↓W_tru, ↓W_tru1, ↓W_tru2, ↓W_tru3, ↓W_tru4, ↓W_tru5, ↓W_tru6, ↓W_tru7, ↓W_bo, ↓W_eand, ↓W_eor, ↓W_enot, ↓W_ink, ↓W_eneg, ↓W_snil, ↓W_seq, ↓W_asg, ↓W_asg1, ↓W_asg2, ↓W_asg3, ↓W_ret, ↓W_hand1, ↓W_hand2, ↓W_hand3, ↓W_hand4, ↓W_expr, ↓W_if, ↓W_for, ↓W_any, ↓W_it1, ↓W_it2, ↓W_it3, ↓W_rg1, ↓W_lc, ↓W_bn, ↓W_yes, ↓W_ownK, ↓W_mut, ↓W_app, ↓W_ins, ↓W_setK, ↓W_stK, ↓W_setIx, ↓W_strK, ↓W_upper, ↓W_join1, ↓W_start, ↓W_slot1, ↓W_slot2, ↓W_arg1, ↓W_arg2, ↓W_sFrz, ↓W_strb, endsD, wipeE, List.foldr_cons, List.foldr_nil, List.length_cons, List.length_nil, List.map_cons, List.map_nil, List.cons_append, List.nil_append, List.append_nil, List.replicate, List.getElem?_cons_zero, List.getElem?_cons_succ, List.getElem?_nil, List.set_cons_zero, List.set_cons_succ, Nat.reduceAdd, Nat.reduceSub, Nat.zero_add, if_true, if_false, Bool.false_eq_true, Bool.not_true, Bool.not_false, true_and, and_true, List.forall_mem_cons, List.mem_cons, List.not_mem_nil, or_false, forall_eq_or_imp, forall_eq, false_and, and_false, implies_true, false_or, Option.map_some, Option.map_none, ite_self, Bool.and_true, Bool.true_and, Bool.and_false, Bool.false_and, List.forall_mem_nil, decide_true, decide_false, isNonD, signsD]
  refine take_of (by omega) fun z h2 h3 h4 => ?_
  simp -dsimp only [↓W_var, ↓W_var1, ↓W_var2, ↓W_var3, ↓W_c, ↓W_frz, ↓W_frz1, ↓W_frz2, ↓W_frz3, ↓W_frz4, ↓W_op, ↓W_call, ↓W_fn, ↓W_fn0, ↓W_fnK, ↓W_nil, ↓W_cons, ↓W_add1, ↓W_add2, ↓W_add3, ↓W_add4, ↓W_add5, ↓W_add6, ↓W_add7, ↓W_int, ↓W_int0, ↓W_mul1, ↓W_mul2, ↓W_eq1, ↓W_eq2, ↓W_eq3, ↓W_eq4, ↓W_ne1, ↓W_ne2, ↓W_ne3, ↓W_in1, ↓W_in2, ↓W_in3, ↓W_in4, ↓W_in5, ↓W_is1, ↓W_is2, ↓W_at, ↓W_atS, ↓W_ix1, ↓W_ix2, ↓W_ix3, ↓W_ix4, ↓W_sl, ↓W_on, ↓W_os, ↓W_part, ↓W_sl1, ↓W_sl2, ↓W_sl3, ↓W_sl4, ↓W_len1, ↓W_len2, ↓W_len3, ↓W_len4, ↓W_abs, ↓W_intf, ↓W_strf, ↓W_list1, ↓W_list2, ↓W_list3, ↓W_tup1, ↓W_tup2, ↓W_tup3, ↓W_max, ↓W_min, ↓W_allK, ↓W_all1, ↓W_isi1, ↓W_isi2, ↓W_k_ns, ↓W_k_bs, ↓W_k_is, ↓W_k_ss, ↓W_k_ts, ↓W_k_ls, ↓W_k_nb, ↓W_k_bb, ↓W_k_ib, ↓W_k_sb, ↓W_k_tb, ↓W_k_lb, ↓W_k_ni, ↓W_k_bi, ↓W_k_ii, ↓W_k_si, ↓W_k_ti, ↓W_k_li, ↓W_k_nt, ↓W_k_bt, ↓W_k_it, ↓W_k_st, ↓W_k_tt, ↓W_k_lt, ↓W_k_nl, ↓W_k_bl, ↓W_k_il, ↓W_k_sl, ↓W_k_tl, ↓W_k_ll, ↓W_valsK, ↓W_etup, ↓W_elst, ↓W_vals0, ↓W_vals1, ↓W_bool, ↓W_bool1, ↓W_tand, ↓W_tor, ↓W_tnot, ↓W_tru, ↓W_tru1, ↓W_tru2, ↓W_tru3, ↓W_tru4, ↓W_tru5, ↓W_tru6, ↓W_tru7, ↓W_bo, ↓W_eand, ↓W_eor, ↓W_enot, ↓W_ink, ↓W_eneg, ↓W_snil, ↓W_seq, ↓W_asg, ↓W_asg1, ↓W_asg2, ↓W_asg3, ↓W_ret, ↓W_hand1, ↓W_hand2, ↓W_hand3, ↓W_hand4, ↓W_expr, ↓W_if, ↓W_for, ↓W_any, ↓W_it1, ↓W_it2, ↓W_it3, ↓W_rg1, ↓W_lc, ↓W_bn, ↓W_yes, ↓W_ownK, ↓W_mut, ↓W_app, ↓W_ins, ↓W_setK, ↓W_stK, ↓W_setIx, ↓W_strK, ↓W_upper, ↓W_join1, ↓W_start, ↓W_slot1, ↓W_slot2, ↓W_arg1, ↓W_arg2, ↓W_sFrz, ↓W_strb, endsD, wipeE, List.foldr_cons, List.foldr_nil, List.length_cons, List.length_nil, List.map_cons, List.map_nil, List.cons_append, List.nil_append, List.append_nil, List.replicate, List.getElem?_cons_zero, List.getElem?_cons_succ, List.getElem?_nil, List.set_cons_zero, List.set_cons_succ, Nat.reduceAdd, Nat.reduceSub, Nat.zero_add, if_true, if_false, Bool.false_eq_true, Bool.not_true, Bool.not_false, true_and, and_true, List.forall_mem_cons, List.mem_cons, List.not_mem_nil, or_false, forall_eq_or_imp, forall_eq, false_and, and_false, implies_true, false_or, Option.map_some, Option.map_none, ite_self, Bool.and_true, Bool.true_and, Bool.and_false, Bool.false_and, List.forall_mem_nil, decide_true, decide_false, isNonD, signsD]
  exact h _ (by omega) (.inl (by omega))


def SG : Str := Str.ofString " !\"#$&'()*+,-./0123456789:;<=>?@ABCDEFGHIJKLMNOPQRSTUVWXYZ[\\]^_`" ++ Str.ofString "abcdefghijklmnopqrstuvwxyz{|}~\n"
def sp__law_signs : FD := fun rs Q _ => rs = [] ∧ Q (.val (.str SG))
theorem mono__law_signs : MonoF sp__law_signs := fun rs Q Q' E E' hq he ⟨h1, h2⟩ => ⟨h1, hq _ h2⟩

theorem ok__law_signs (T : Tx K mg A) : FnOk P w K mg base (L2.CX P w) 1 A.a__law_signs A.f__law_signs [] (spD K 0 sp__law_signs) := by
  refine fn_okD T.F__law_signs sc__law_signs (by decide) (fun cdv A0 outer s H E g hK hr cy => ?_)
  refine ⟨_, _, (dss_cons (ds_asg 0 de_str sc__law_signs.nd)
    (dss_one (ds_ret (de_add cy (de_var 0) de_str)))), fun rs Q Ex hl h => ?_⟩
  obtain ⟨rfl, h⟩ := h
  simp -dsimp only [↓W_var, ↓W_var1, ↓W_var2, ↓W_var3, ↓W_c, ↓W_frz, ↓W_frz1, ↓W_frz2, ↓W_frz3, ↓W_frz4, ↓W_op, ↓W_call, ↓W_fn, ↓W_fn0, ↓W_fnK, ↓W_nil, ↓W_cons, ↓W_add1, ↓W_add2, ↓W_add3, ↓W_add4, ↓W_add5, ↓W_add6, ↓W_add7, ↓W_int, ↓W_int0, ↓W_mul1, ↓W_mul2, ↓W_eq1, ↓W_eq2, ↓W_eq3, ↓W_eq4, ↓W_ne1, ↓W_ne2, ↓W_ne3, ↓W_in1, ↓W_in2, ↓W_in3, ↓W_in4, ↓W_in5, ↓W_is1, ↓W_is2, ↓W_at, ↓W_atS, ↓W_ix1, ↓W_ix2, ↓W_ix3, ↓W_ix4, ↓W_sl, ↓W_on, ↓W_os, ↓W_part, ↓W_sl1, ↓W_sl2, ↓W_sl3, ↓W_sl4, ↓W_len1, ↓W_len2, ↓W_len3, ↓W_len4, ↓W_abs, ↓W_intf, ↓W_strf, ↓W_list1, ↓W_list2, ↓W_list3, ↓W_tup1, ↓W_tup2, ↓W_tup3, ↓W_max, ↓W_min, ↓W_allK, ↓W_all1, ↓W_isi1, ↓W_isi2, ↓W_k_ns, ↓W_k_bs, ↓W_k_is, ↓W_k_ss, ↓W_k_ts, ↓W_k_ls, ↓W_k_nb, ↓W_k_bb, ↓W_k_ib, ↓W_k_sb, ↓W_k_tb, ↓W_k_lb, ↓W_k_ni, ↓W_k_bi, ↓W_k_ii, ↓W_k_si, ↓W_k_ti, ↓W_k_li, ↓W_k_nt, ↓W_k_bt, ↓W_k_it, ↓W_k_st, ↓W_k_tt, ↓W_k_lt, ↓W_k_nl, ↓W_k_bl, ↓W_k_il, ↓W_k_sl, ↓W_k_tl, ↓W_k_ll, ↓W_valsK, ↓W_etup, ↓W_elst, ↓W_vals0, ↓W_vals1, ↓W_bool, ↓W_bool1, ↓W_tand, ↓W_tor, ↓W_tnot, ↓W_tru, ↓W_tru1, ↓W_tru2, ↓W_tru3, ↓W_tru4, ↓W_tru5, ↓W_tru6, ↓W_tru7, ↓W_bo, ↓W_eand, ↓W_eor, ↓W_enot, ↓W_ink, ↓W_eneg, ↓W_snil, ↓W_seq, ↓W_asg, ↓W_asg1, ↓W_asg2, ↓W_asg3, ↓W_ret, ↓W_hand1, ↓W_hand2, ↓W_hand3, ↓W_hand4, ↓W_expr, ↓W_if, ↓W_for, ↓W_any, ↓W_it1, ↓W_it2, ↓W_it3, ↓W_rg1, ↓W_lc, ↓W_bn, ↓W_yes, ↓W_ownK, ↓W_mut, ↓W_app, ↓W_ins, ↓W_setK, ↓W_stK, ↓W_setIx, ↓W_strK, ↓W_upper, ↓W_join1, ↓W_start, ↓W_slot1, ↓W_slot2, ↓W_arg1, ↓W_arg2, ↓W_sFrz, ↓W_strb, endsD, wipeE, List.foldr_cons, List.foldr_nil, List.length_cons, List.length_nil, List.map_cons, List.map_nil, List.cons_append, List.nil_append, List.append_nil, List.replicate, List.getElem?_cons_zero, List.getElem?_cons_succ, List.getElem?_nil, List.set_cons_zero, List.set_cons_succ, Nat.reduceAdd, Nat.reduceSub, Nat.zero_add, if_true, if_false, Bool.false_eq_true, Bool.not_true, Bool.not_false, true_and, and_true, List.forall_mem_cons, List.mem_cons, List.not_mem_nil, or_false, forall_eq_or_imp, forall_eq, false_and, and_false, implies_true, false_or, Option.map_some, Option.map_none, ite_self, Bool.and_true, Bool.true_and, Bool.and_false, Bool.false_and, List.forall_mem_nil, decide_true, decide_false, isNonD, signsD]
  exact ⟨by decide, h⟩


def sp__law_string : FD := fun rs Q _ => ∃ n : Int, rs = [.sto, .val (.int n)] ∧ 0 ≤ n ∧ n ≤ 600 ∧ ∀ s : Str, s.length ≤ 600 → Q (.val (.str s))
theorem mono__law_string : MonoF sp__law_string := fun rs Q Q' E E' hq he ⟨n, h1, h2, h3, h4⟩ => ⟨n, h1, h2, h3, fun s a => hq _ (h4 s a)⟩

theorem ok__law_string (T : Tx K mg A) : FnOk P w K mg base (L2.CX P w) 4 A.a__law_string A.f__law_string ["store", "count"] (spD K 2 sp__law_string) := by
  refine fn_okD T.F__law_string sc__law_string (by decide) (fun cdv A0 outer s H E g hK hr cy => ?_)
  refine ⟨_, _, (dss_cons (ds_asg 2 (de_call0 cy (ok__law_signs T) mono__law_signs (hr.mono (by decide)) (by rfl) T.m__law_signs T.F__law_signs.kp T.b__law_signs) sc__law_string.nd)
    (dss_cons (ds_asg 3 (de_join cy de_str (de_lc cy (own := [("k", 4)]) sc__law_string.nd (di_range1 (by rfl) T.m_range (da_cons (de_add cy de_int (de_call cy (ok__law_take T) mono__law_take (hr.mono (by decide)) (by rfl) T.m__law_take T.F__law_take.kp T.b__law_take (da_cons (de_var 0) (da_cons de_int da_nil)))) da_nil)) (blkOk_by (own := [("k", 4)]) (N := N__law_string) (sc := defScope s__law_string) (by decide +kernel)) (fun _ _ _ _ _ cy => (dg_name 4 sc__law_string.nd)) (fun _ _ _ _ _ cy => dts_nil) (fun _ _ _ _ _ cy => (de_call cy (ok__law_pick T) mono__law_pick (hr.mono (by decide)) (by rfl) T.m__law_pick T.F__law_pick.kp T.b__law_pick (da_cons (de_var 0) (da_cons (de_var 2) da_nil)))))) sc__law_string.nd)
    (dss_one (ds_ret (de_slice cy (de_mul cy (de_var 3) (de_add cy (de_fdiv cy (de_var 1) (de_len cy (by rfl) T.m_len (de_var 3))) de_int)) do_none (do_some (de_var 1))))))), fun rs Q Ex hl h => ?_⟩
  obtain ⟨n, rfl, h0, h1, h⟩ := h
  simp -dsimp only [↓W_var, ↓W_var1, ↓W_var2, ↓W_var3, ↓W_c, ↓W_frz, ↓W_frz1, ↓W_frz2, ↓W_frz3, ↓W_frz4, ↓W_op, ↓W_call, ↓W_fn, ↓W_fn0, ↓W_fnK, ↓W_nil, ↓W_cons, ↓W_add1, ↓W_add2, ↓W_add3, ↓W_add4, ↓W_add5, ↓W_add6, ↓W_add7, ↓W_int, ↓W_int0, ↓W_mul1, ↓W_mul2, ↓W_eq1, ↓W_eq2, ↓W_eq3, ↓W_eq4, ↓W_ne1, ↓W_ne2, ↓W_ne3, ↓W_in1, ↓W_in2, ↓W_in3, ↓W_in4, ↓W_in5, ↓W_is1, ↓W_is2, ↓W_at, ↓W_atS, ↓W_ix1, ↓W_ix2, ↓W_ix3, ↓W_ix4, ↓W_sl, ↓W_on, ↓W_os, ↓W_part, ↓W_sl1, ↓W_sl2, ↓W_sl3, ↓W_sl4, ↓W_len1, ↓W_len2, ↓W_len3, ↓W_len4, ↓W_abs, ↓W_intf, ↓W_strf, ↓W_list1, ↓W_list2, ↓W_list3, ↓W_tup1, ↓W_tup2, ↓W_tup3, ↓W_max, ↓W_min, ↓W_allK, ↓W_all1, ↓W_isi1, ↓W_isi2, ↓W_k_ns, ↓W_k_bs, ↓W_k_is, ↓W_k_ss, ↓W_k_ts, ↓W_k_ls, ↓W_k_nb, ↓W_k_bb, ↓W_k_ib, ↓W_k_sb, ↓W_k_tb, ↓W_k_lb, ↓W_k_ni, ↓W_k_bi, ↓W_k_ii, ↓W_k_si, ↓W_k_ti, ↓W_k_li, ↓W_k_nt, ↓W_k_bt, ↓W_k_it, ↓W_k_st, ↓W_k_tt, ↓W_k_lt, ↓W_k_nl, ↓W_k_bl, ↓W_k_il, ↓W_k_sl, ↓W_k_tl, ↓W_k_ll, ↓W_valsK, ↓W_etup, ↓W_elst, ↓W_vals0, ↓W_vals1, ↓W_bool, ↓W_bool1, ↓W_tand, ↓W_tor, ↓W_tnot, ↓W_tru, ↓W_tru1, ↓W_tru2, ↓W_tru3, ↓W_tru4, ↓W_tru5, ↓W_tru6, ↓W_tru7, ↓W_bo, ↓W_eand, ↓W_eor, ↓W_enot, ↓W_ink, ↓W_eneg, ↓W_snil, ↓W_seq, ↓W_asg, ↓W_asg1, ↓W_asg2, ↓W_asg3, ↓W_ret, ↓W_hand1, ↓W_hand2, ↓W_hand3, ↓W_hand4, ↓W_expr, ↓W_if, ↓W_for, ↓W_any, ↓W_it1, ↓W_it2, ↓W_it3, ↓W_rg1, ↓W_lc, ↓W_bn, ↓W_yes, ↓W_ownK, ↓W_mut, ↓W_app, ↓W_ins, ↓W_setK, ↓W_stK, ↓W_setIx, ↓W_strK, ↓W_upper, ↓W_join1, ↓W_start, ↓W_slot1, ↓W_slot2, ↓W_arg1, ↓W_arg2, ↓W_sFrz, ↓W_strb, endsD, wipeE, List.foldr_cons, List.foldr_nil, List.length_cons, List.length_nil, List.map_cons, List.map_nil, List.cons_append, List.nil_append, List.append_nil, List.replicate, List.getElem?_cons_zero, List.getElem?_cons_succ, List.getElem?_nil, List.set_cons_zero, List.set_cons_succ, Nat.reduceAdd, Nat.reduceSub, Nat.zero_add, if_true, if_false, Bool.false_eq_true, Bool.not_true, Bool.not_false, true_and, and_true, List.forall_mem_cons, List.mem_cons, List.not_mem_nil, or_false, forall_eq_or_imp, forall_eq, false_and, and_false, implies_true, false_or, Option.map_some, Option.map_none, ite_self, Bool.and_true, Bool.true_and, Bool.and_false, Bool.false_and, List.forall_mem_nil, decide_true, decide_false, isNonD, signsD]
  refine ⟨rfl, ?_⟩
  simp -dsimp only [↓W_var, ↓W_var1, ↓W_var2, ↓W_var3, ↓W_c, ↓W_frz, ↓W_frz1, ↓W_frz2, ↓W_frz3, ↓W_frz4, ↓W_op, ↓W_call, ↓W_fn, ↓W_fn0, ↓W_fnK, ↓W_nil, ↓W_cons, ↓W_add1, ↓W_add2, ↓W_add3, ↓W_add4, ↓W_add5, ↓W_add6, ↓W_add7, ↓W_int, ↓W_int0, ↓W_mul1, ↓W_mul2, ↓W_eq1, ↓W_eq2, ↓W_eq3, ↓W_eq4, ↓W_ne1, ↓W_ne2, ↓W_ne3, ↓W_in1, ↓W_in2, ↓W_in3, ↓W_in4, ↓W_in5, ↓W_is1, ↓W_is2, ↓W_at, ↓W_atS, ↓W_ix1, ↓W_ix2, ↓W_ix3, ↓W_ix4, ↓W_sl, ↓W_on, ↓W_os, ↓W_part, ↓W_sl1, ↓W_sl2, ↓W_sl3, ↓W_sl4, ↓W_len1, ↓W_len2, ↓W_len3, ↓W_len4, ↓W_abs, ↓W_intf, ↓W_strf, ↓W_list1, ↓W_list2, ↓W_list3, ↓W_tup1, ↓W_tup2, ↓W_tup3, ↓W_max, ↓W_min, ↓W_allK, ↓W_all1, ↓W_isi1, ↓W_isi2, ↓W_k_ns, ↓W_k_bs, ↓W_k_is, ↓W_k_ss, ↓W_k_ts, ↓W_k_ls, ↓W_k_nb, ↓W_k_bb, ↓W_k_ib, ↓W_k_sb, ↓W_k_tb, ↓W_k_lb, ↓W_k_ni, ↓W_k_bi, ↓W_k_ii, ↓W_k_si, ↓W_k_ti, ↓W_k_li, ↓W_k_nt, ↓W_k_bt, ↓W_k_it, ↓W_k_st, ↓W_k_tt, ↓W_k_lt, ↓W_k_nl, ↓W_k_bl, ↓W_k_il, ↓W_k_sl, ↓W_k_tl, ↓W_k_ll, ↓W_valsK, ↓W_etup, ↓W_elst, ↓W_vals0, ↓W_vals1, ↓W_bool, ↓W_bool1, ↓W_tand, ↓W_tor, ↓W_tnot, ↓W_tru, ↓W_tru1, ↓W_tru2, ↓W_tru3, ↓W_tru4, ↓W_tru5, ↓W_tru6, ↓W_tru7, ↓W_bo, ↓W_eand, ↓W_eor, ↓W_enot, ↓W_ink, ↓W_eneg, ↓W_snil, ↓W_seq, ↓W_asg, ↓W_asg1, ↓W_asg2, ↓W_asg3, ↓W_ret, ↓W_hand1, ↓W_hand2, ↓W_hand3, ↓W_hand4, ↓W_expr, ↓W_if, ↓W_for, ↓W_any, ↓W_it1, ↓W_it2, ↓W_it3, ↓W_rg1, ↓W_lc, ↓W_bn, ↓W_yes, ↓W_ownK, ↓W_mut, ↓W_app, ↓W_ins, ↓W_setK, ↓W_stK, ↓W_setIx, ↓W_strK, ↓W_upper, ↓W_join1, ↓W_start, ↓W_slot1, ↓W_slot2, ↓W_arg1, ↓W_arg2, ↓W_sFrz, ↓W_strb, endsD, wipeE, List.foldr_cons, List.foldr_nil, List.length_cons, List.length_nil, List.map_cons, List.map_nil, List.cons_append, List.nil_append, List.append_nil, List.replicate, List.getElem?_cons_zero, List.getElem?_cons_succ, List.getElem?_nil, List.set_cons_zero, List.set_cons_succ, Nat.reduceAdd, Nat.reduceSub, Nat.zero_add, if_true, if_false, Bool.false_eq_true, Bool.not_true, Bool.not_false, true_and, and_true, List.forall_mem_cons, List.mem_cons, List.not_mem_nil, or_false, forall_eq_or_imp, forall_eq, false_and, and_false, implies_true, false_or, Option.map_some, Option.map_none, ite_self, Bool.and_true, Bool.true_and, Bool.and_false, Bool.false_and, List.forall_mem_nil, decide_true, decide_false, isNonD, signsD]
  refine take_of (by decide) fun r r0 _ r1 => ?_
  simp -dsimp only [↓W_var, ↓W_var1, ↓W_var2, ↓W_var3, ↓W_c, ↓W_frz, ↓W_frz1, ↓W_frz2, ↓W_frz3, ↓W_frz4, ↓W_op, ↓W_call, ↓W_fn, ↓W_fn0, ↓W_fnK, ↓W_nil, ↓W_cons, ↓W_add1, ↓W_add2, ↓W_add3, ↓W_add4, ↓W_add5, ↓W_add6, ↓W_add7, ↓W_int, ↓W_int0, ↓W_mul1, ↓W_mul2, ↓W_eq1, ↓W_eq2, ↓W_eq3, ↓W_eq4, ↓W_ne1, ↓W_ne2, ↓W_ne3, ↓W_in1, ↓W_in2, ↓W_in3, ↓W_in4, ↓W_in5, ↓W_is1, ↓W_is2, ↓W_at, ↓W_atS, ↓W_ix1, ↓W_ix2, ↓W_ix3, ↓W_ix4, ↓W_sl, ↓W_on, ↓W_os, ↓W_part, ↓W_sl1, ↓W_sl2, ↓W_sl3, ↓W_sl4, ↓W_len1, ↓W_len2, ↓W_len3, ↓W_len4, ↓W_abs, ↓W_intf, ↓W_strf, ↓W_list1, ↓W_list2, ↓W_list3, ↓W_tup1, ↓W_tup2, ↓W_tup3, ↓W_max, ↓W_min, ↓W_allK, ↓W_all1, ↓W_isi1, ↓W_isi2, ↓W_k_ns, ↓W_k_bs, ↓W_k_is, ↓W_k_ss, ↓W_k_ts, ↓W_k_ls, ↓W_k_nb, ↓W_k_bb, ↓W_k_ib, ↓W_k_sb, ↓W_k_tb, ↓W_k_lb, ↓W_k_ni, ↓W_k_bi, ↓W_k_ii, ↓W_k_si, ↓W_k_ti, ↓W_k_li, ↓W_k_nt, ↓W_k_bt, ↓W_k_it, ↓W_k_st, ↓W_k_tt, ↓W_k_lt, ↓W_k_nl, ↓W_k_bl, ↓W_k_il, ↓W_k_sl, ↓W_k_tl, ↓W_k_ll, ↓W_valsK, ↓W_etup, ↓W_elst, ↓W_vals0, ↓W_vals1, ↓W_bool, ↓W_bool1, ↓W_tand, ↓W_tor, ↓W_tnot, ↓W_tru, ↓W_tru1, ↓W_tru2, ↓W_tru3, ↓W_tru4, ↓W_tru5, ↓W_tru6, ↓W_tru7, ↓W_bo, ↓W_eand, ↓W_eor, ↓W_enot, ↓W_ink, ↓W_eneg, ↓W_snil, ↓W_seq, ↓W_asg, ↓W_asg1, ↓W_asg2, ↓W_asg3, ↓W_ret, ↓W_hand1, ↓W_hand2, ↓W_hand3, ↓W_hand4, ↓W_expr, ↓W_if, ↓W_for, ↓W_any, ↓W_it1, ↓W_it2, ↓W_it3, ↓W_rg1, ↓W_lc, ↓W_bn, ↓W_yes, ↓W_ownK, ↓W_mut, ↓W_app, ↓W_ins, ↓W_setK, ↓W_stK, ↓W_setIx, ↓W_strK, ↓W_upper, ↓W_join1, ↓W_start, ↓W_slot1, ↓W_slot2, ↓W_arg1, ↓W_arg2, ↓W_sFrz, ↓W_strb, endsD, wipeE, List.foldr_cons, List.foldr_nil, List.length_cons, List.length_nil, List.map_cons, List.map_nil, List.cons_append, List.nil_append, List.append_nil, List.replicate, List.getElem?_cons_zero, List.getElem?_cons_succ, List.getElem?_nil, List.set_cons_zero, List.set_cons_succ, Nat.reduceAdd, Nat.reduceSub, Nat.zero_add, if_true, if_false, Bool.false_eq_true, Bool.not_true, Bool.not_false, true_and, and_true, List.forall_mem_cons, List.mem_cons, List.not_mem_nil, or_false, forall_eq_or_imp, forall_eq, false_and, and_false, implies_true, false_or, Option.map_some, Option.map_none, ite_self, Bool.and_true, Bool.true_and, Bool.and_false, Bool.false_and, List.forall_mem_nil, decide_true, decide_false, isNonD, signsD]
  have r2 := r1 (by decide)
  refine ⟨by omega, by omega, nn_of (by rw [range_len]; omega), ?_⟩
  refine lcW_draw (fun _ e => ∃ c, e = .str ⟨#[c]⟩) _ _ (fun d _ Y N hY => ?_) (fun es hl he => ?_)
  · simp -dsimp only [↓W_var, ↓W_var1, ↓W_var2, ↓W_var3, ↓W_c, ↓W_frz, ↓W_frz1, ↓W_frz2, ↓W_frz3, ↓W_frz4, ↓W_op, ↓W_call, ↓W_fn, ↓W_fn0, ↓W_fnK, ↓W_nil, ↓W_cons, ↓W_add1, ↓W_add2, ↓W_add3, ↓W_add4, ↓W_add5, ↓W_add6, ↓W_add7, ↓W_int, ↓W_int0, ↓W_mul1, ↓W_mul2, ↓W_eq1, ↓W_eq2, ↓W_eq3, ↓W_eq4, ↓W_ne1, ↓W_ne2, ↓W_ne3, ↓W_in1, ↓W_in2, ↓W_in3, ↓W_in4, ↓W_in5, ↓W_is1, ↓W_is2, ↓W_at, ↓W_atS, ↓W_ix1, ↓W_ix2, ↓W_ix3, ↓W_ix4, ↓W_sl, ↓W_on, ↓W_os, ↓W_part, ↓W_sl1, ↓W_sl2, ↓W_sl3, ↓W_sl4, ↓W_len1, ↓W_len2, ↓W_len3, ↓W_len4, ↓W_abs, ↓W_intf, ↓W_strf, ↓W_list1, ↓W_list2, ↓W_list3, ↓W_tup1, ↓W_tup2, ↓W_tup3, ↓W_max, ↓W_min, ↓W_allK, ↓W_all1, ↓W_isi1, ↓W_isi2, ↓W_k_ns, ↓W_k_bs, ↓W_k_is, ↓W_k_ss, ↓W_k_ts, ↓W_k_ls, ↓W_k_nb, ↓W_k_bb, ↓W_k_ib, ↓W_k_sb, ↓W_k_tb, ↓W_k_lb, ↓W_k_ni, ↓W_k_bi, ↓W_k_ii, ↓W_k_si, ↓W_k_ti, ↓W_k_li, ↓W_k_nt, ↓W_k_bt, ↓W_k_it, ↓W_k_st, ↓W_k_tt, ↓W_k_lt, ↓W_k_nl, ↓W_k_bl, ↓W_k_il, ↓W_k_sl, ↓W_k_tl, ↓W_k_ll, ↓W_valsK, ↓W_etup, ↓W_elst, ↓W_vals0, ↓W_vals1, ↓W_bool, ↓W_bool1, ↓W_tand, ↓W_tor, ↓W_tnot, ↓W_tru, ↓W_tru1, ↓W_tru2, ↓W_tru3, ↓W_tru4, ↓W_tru5, ↓W_tru6, ↓W_tru7, ↓W_bo, ↓W_eand, ↓W_eor, ↓W_enot, ↓W_ink, ↓W_eneg, ↓W_snil, ↓W_seq, ↓W_asg, ↓W_asg1, ↓W_asg2, ↓W_asg3, ↓W_ret, ↓W_hand1, ↓W_hand2, ↓W_hand3, ↓W_hand4, ↓W_expr, ↓W_if, ↓W_for, ↓W_any, ↓W_it1, ↓W_it2, ↓W_it3, ↓W_rg1, ↓W_lc, ↓W_bn, ↓W_yes, ↓W_ownK, ↓W_mut, ↓W_app, ↓W_ins, ↓W_setK, ↓W_stK, ↓W_setIx, ↓W_strK, ↓W_upper, ↓W_join1, ↓W_start, ↓W_slot1, ↓W_slot2, ↓W_arg1, ↓W_arg2, ↓W_sFrz, ↓W_strb, endsD, wipeE, List.foldr_cons, List.foldr_nil, List.length_cons, List.length_nil, List.map_cons, List.map_nil, List.cons_append, List.nil_append, List.append_nil, List.replicate, List.getElem?_cons_zero, List.getElem?_cons_succ, List.getElem?_nil, List.set_cons_zero, List.set_cons_succ, Nat.reduceAdd, Nat.reduceSub, Nat.zero_add, if_true, if_false, Bool.false_eq_true, Bool.not_true, Bool.not_false, true_and, and_true, List.forall_mem_cons, List.mem_cons, List.not_mem_nil, or_false, forall_eq_or_imp, forall_eq, false_and, and_false, implies_true, false_or, Option.map_some, Option.map_none, ite_self, Bool.and_true, Bool.true_and, Bool.and_false, Bool.false_and, List.forall_mem_nil, decide_true, decide_false, isNonD, signsD]
    refine pick_str (s := SG) (by decide +kernel) (by decide +kernel) fun c _ => ?_
    simp -dsimp only [↓W_var, ↓W_var1, ↓W_var2, ↓W_var3, ↓W_c, ↓W_frz, ↓W_frz1, ↓W_frz2, ↓W_frz3, ↓W_frz4, ↓W_op, ↓W_call, ↓W_fn, ↓W_fn0, ↓W_fnK, ↓W_nil, ↓W_cons, ↓W_add1, ↓W_add2, ↓W_add3, ↓W_add4, ↓W_add5, ↓W_add6, ↓W_add7, ↓W_int, ↓W_int0, ↓W_mul1, ↓W_mul2, ↓W_eq1, ↓W_eq2, ↓W_eq3, ↓W_eq4, ↓W_ne1, ↓W_ne2, ↓W_ne3, ↓W_in1, ↓W_in2, ↓W_in3, ↓W_in4, ↓W_in5, ↓W_is1, ↓W_is2, ↓W_at, ↓W_atS, ↓W_ix1, ↓W_ix2, ↓W_ix3, ↓W_ix4, ↓W_sl, ↓W_on, ↓W_os, ↓W_part, ↓W_sl1, ↓W_sl2, ↓W_sl3, ↓W_sl4, ↓W_len1, ↓W_len2, ↓W_len3, ↓W_len4, ↓W_abs, ↓W_intf, ↓W_strf, ↓W_list1, ↓W_list2, ↓W_list3, ↓W_tup1, ↓W_tup2, ↓W_tup3, ↓W_max, ↓W_min, ↓W_allK, ↓W_all1, ↓W_isi1, ↓W_isi2, ↓W_k_ns, ↓W_k_bs, ↓W_k_is, ↓W_k_ss, ↓W_k_ts, ↓W_k_ls, ↓W_k_nb, ↓W_k_bb, ↓W_k_ib, ↓W_k_sb, ↓W_k_tb, ↓W_k_lb, ↓W_k_ni, ↓W_k_bi, ↓W_k_ii, ↓W_k_si, ↓W_k_ti, ↓W_k_li, ↓W_k_nt, ↓W_k_bt, ↓W_k_it, ↓W_k_st, ↓W_k_tt, ↓W_k_lt, ↓W_k_nl, ↓W_k_bl, ↓W_k_il, ↓W_k_sl, ↓W_k_tl, ↓W_k_ll, ↓W_valsK, ↓W_etup, ↓W_elst, ↓W_vals0, ↓W_vals1, ↓W_bool, ↓W_bool1, ↓W_tand, ↓W_tor, ↓W_tnot, ↓W_tru, ↓W_tru1, ↓W_tru2, ↓W_tru3, ↓W_tru4, ↓W_tru5, ↓W_tru6, ↓W_tru7, ↓W_bo, ↓W_eand, ↓W_eor, ↓W_enot, ↓W_ink, ↓W_eneg, ↓W_snil, ↓W_seq, ↓W_asg, ↓W_asg1, ↓W_asg2, ↓W_asg3, ↓W_ret, ↓W_hand1, ↓W_hand2, ↓W_hand3, ↓W_hand4, ↓W_expr, ↓W_if, ↓W_for, ↓W_any, ↓W_it1, ↓W_it2, ↓W_it3, ↓W_rg1, ↓W_lc, ↓W_bn, ↓W_yes, ↓W_ownK, ↓W_mut, ↓W_app, ↓W_ins, ↓W_setK, ↓W_stK, ↓W_setIx, ↓W_strK, ↓W_upper, ↓W_join1, ↓W_start, ↓W_slot1, ↓W_slot2, ↓W_arg1, ↓W_arg2, ↓W_sFrz, ↓W_strb, endsD, wipeE, List.foldr_cons, List.foldr_nil, List.length_cons, List.length_nil, List.map_cons, List.map_nil, List.cons_append, List.nil_append, List.append_nil, List.replicate, List.getElem?_cons_zero, List.getElem?_cons_succ, List.getElem?_nil, List.set_cons_zero, List.set_cons_succ, Nat.reduceAdd, Nat.reduceSub, Nat.zero_add, if_true, if_false, Bool.false_eq_true, Bool.not_true, Bool.not_false, true_and, and_true, List.forall_mem_cons, List.mem_cons, List.not_mem_nil, or_false, forall_eq_or_imp, forall_eq, false_and, and_false, implies_true, false_or, Option.map_some, Option.map_none, ite_self, Bool.and_true, Bool.true_and, Bool.and_false, Bool.false_and, List.forall_mem_nil, decide_true, decide_false, isNonD, signsD]
    exact ⟨_, rfl, hY _ ⟨c, rfl⟩⟩
  have hm : ∀ e ∈ es, ∃ c, e = .str ⟨#[c]⟩ := fun e me => by
    obtain ⟨i, hi⟩ := List.mem_iff_getElem?.mp me
    have hi2 : i < es.length := (List.getElem?_eq_some_iff.mp hi).1
    exact he i _ e (List.getElem?_eq_getElem (by omega)) hi
  obtain ⟨ss, rfl, h1s⟩ : ∃ ss : List Str, es = ss.map D.str ∧ ∀ a ∈ ss, a.length = 1 := by
    clear hl he
    induction es with
    | nil => exact ⟨[], rfl, fun _ m => nomatch m⟩
    | cons e es ih =>
      obtain ⟨ss, rfl, q⟩ := ih (fun e m => hm e (List.mem_cons_of_mem _ m))
      obtain ⟨c, rfl⟩ := hm e List.mem_cons_self
      exact ⟨⟨#[c]⟩ :: ss, rfl, fun a m => by
        rcases List.mem_cons.mp m with rfl | m
        · rfl
        · exact q a m⟩
  rw [List.length_map, range_len] at hl
  refine ⟨_, ss, rfl, strsOf_map ss, by rw [sum_ones h1s]; show ss.length + ss.length * 0 ≤ 100000; omega, ?_⟩
  simp -dsimp only [↓W_var, ↓W_var1, ↓W_var2, ↓W_var3, ↓W_c, ↓W_frz, ↓W_frz1, ↓W_frz2, ↓W_frz3, ↓W_frz4, ↓W_op, ↓W_call, ↓W_fn, ↓W_fn0, ↓W_fnK, ↓W_nil, ↓W_cons, ↓W_add1, ↓W_add2, ↓W_add3, ↓W_add4, ↓W_add5, ↓W_add6, ↓W_add7, ↓W_int, ↓W_int0, ↓W_mul1, ↓W_mul2, ↓W_eq1, ↓W_eq2, ↓W_eq3, ↓W_eq4, ↓W_ne1, ↓W_ne2, ↓W_ne3, ↓W_in1, ↓W_in2, ↓W_in3, ↓W_in4, ↓W_in5, ↓W_is1, ↓W_is2, ↓W_at, ↓W_atS, ↓W_ix1, ↓W_ix2, ↓W_ix3, ↓W_ix4, ↓W_sl, ↓W_on, ↓W_os, ↓W_part, ↓W_sl1, ↓W_sl2, ↓W_sl3, ↓W_sl4, ↓W_len1, ↓W_len2, ↓W_len3, ↓W_len4, ↓W_abs, ↓W_intf, ↓W_strf, ↓W_list1, ↓W_list2, ↓W_list3, ↓W_tup1, ↓W_tup2, ↓W_tup3, ↓W_max, ↓W_min, ↓W_allK, ↓W_all1, ↓W_isi1, ↓W_isi2, ↓W_k_ns, ↓W_k_bs, ↓W_k_is, ↓W_k_ss, ↓W_k_ts, ↓W_k_ls, ↓W_k_nb, ↓W_k_bb, ↓W_k_ib, ↓W_k_sb, ↓W_k_tb, ↓W_k_lb, ↓W_k_ni, ↓W_k_bi, ↓W_k_ii, ↓W_k_si, ↓W_k_ti, ↓W_k_li, ↓W_k_nt, ↓W_k_bt, ↓W_k_it, ↓W_k_st, ↓W_k_tt, ↓W_k_lt, ↓W_k_nl, ↓W_k_bl, ↓W_k_il, ↓W_k_sl, ↓W_k_tl, ↓W_k_ll, ↓W_valsK, ↓W_etup, ↓W_elst, ↓W_vals0, ↓W_vals1, ↓W_bool, ↓W_bool1, ↓W_tand, ↓W_tor, ↓W_tnot, ↓W_tru, ↓W_tru1, ↓W_tru2, ↓W_tru3, ↓W_tru4, ↓W_tru5, ↓W_tru6, ↓W_tru7, ↓W_bo, ↓W_eand, ↓W_eor, ↓W_enot, ↓W_ink, ↓W_eneg, ↓W_snil, ↓W_seq, ↓W_asg, ↓W_asg1, ↓W_asg2, ↓W_asg3, ↓W_ret, ↓W_hand1, ↓W_hand2, ↓W_hand3, ↓W_hand4, ↓W_expr, ↓W_if, ↓W_for, ↓W_any, ↓W_it1, ↓W_it2, ↓W_it3, ↓W_rg1, ↓W_lc, ↓W_bn, ↓W_yes, ↓W_ownK, ↓W_mut, ↓W_app, ↓W_ins, ↓W_setK, ↓W_stK, ↓W_setIx, ↓W_strK, ↓W_upper, ↓W_join1, ↓W_start, ↓W_slot1, ↓W_slot2, ↓W_arg1, ↓W_arg2, ↓W_sFrz, ↓W_strb, endsD, wipeE, List.foldr_cons, List.foldr_nil, List.length_cons, List.length_nil, List.map_cons, List.map_nil, List.cons_append, List.nil_append, List.append_nil, List.replicate, List.getElem?_cons_zero, List.getElem?_cons_succ, List.getElem?_nil, List.set_cons_zero, List.set_cons_succ, Nat.reduceAdd, Nat.reduceSub, Nat.zero_add, if_true, if_false, Bool.false_eq_true, Bool.not_true, Bool.not_false, true_and, and_true, List.forall_mem_cons, List.mem_cons, List.not_mem_nil, or_false, forall_eq_or_imp, forall_eq, false_and, and_false, implies_true, false_or, Option.map_some, Option.map_none, ite_self, Bool.and_true, Bool.true_and, Bool.and_false, Bool.false_and, List.forall_mem_nil, decide_true, decide_false, isNonD, signsD]
  have pl : (Txt.join (Str.ofString "") ss).length = ss.length := by rw [join_len0, sum_ones h1s]
  rw [pl]
  have f0 : 0 ≤ n.fdiv (ss.length : Int) := Int.fdiv_nonneg h0 (by omega)
  have f1 : n.fdiv (ss.length : Int) ≤ 600 := by
    have := Int.fdiv_le_self (ss.length : Int) h0
    omega
  have f2 : ss.length * (n.fdiv (ss.length : Int) + 1).toNat ≤ 12 * 601 := Nat.mul_le_mul (by omega) (by omega)
  refine ⟨lim_of (by omega), ⟨by omega, by omega⟩, ⟨by omega, by omega, by omega⟩, ?_⟩
  rw [repS_length, pl, Nat.mul_comm]
  refine ⟨lim_of (by omega), h _ ?_⟩
  have e : (n : Int) = (n.toNat : Int) := (Int.toNat_of_nonneg h0).symm
  rw [e]
  have := cutS_to (repS (Txt.join (Str.ofString "") ss) (((n.toNat : Int).fdiv (ss.length : Int)) + 1).toNat) n.toNat
  omega


def LET : Str := Str.ofString "abcdefghijklmnopqrstuvwxyz"
def SIG : Str := Str.ofString "abcdefghijklmnopqrstuvwxyz0123456789"
def firstIn (l : List Nat) : Bool := match l with | [] => false | c :: _ => decide (c ∈ LET.cps.toList)
def isNameS (s : Str) : Bool := decide (0 < s.length) && decide (s.length ≤ 8) && firstIn s.cps.toList && s.cps.toList.all fun c => decide (c ∈ SIG.cps.toList)
def isNameD : D → Bool
  | .str s => isNameS s
  | _ => false
theorem let_sig : ∀ c ∈ LET.cps.toList, c ∈ SIG.cps.toList := by decide +kernel
def sp__law_name : FD := fun rs Q _ => rs = [.sto] ∧ ∀ s, isNameS s = true → Q (.val (.str s))
theorem mono__law_name : MonoF sp__law_name := fun rs Q Q' E E' hq he ⟨h1, h2⟩ => ⟨h1, fun s a => hq _ (h2 s a)⟩
theorem name_len {s : Str} (h : isNameS s = true) : 0 < s.length ∧ s.length ≤ 8 := by
  simp only [isNameS, Bool.and_eq_true, decide_eq_true_eq] at h
  omega
/-- a name with one sign more -/
theorem name_add {s : Str} {c : Nat} (h : firstIn s.cps.toList = true ∧ s.cps.toList.all (fun c => decide (c ∈ SIG.cps.toList)) = true) (hc : c ∈ SIG.cps.toList) :
    firstIn (s ++ ⟨#[c]⟩).cps.toList = true ∧ (s ++ ⟨#[c]⟩).cps.toList.all (fun c => decide (c ∈ SIG.cps.toList)) = true := by
  rw [app_list, List.all_append, h.2]
  constructor
  · cases e : s.cps.toList with
    | nil => rw [e] at h; exact absurd h.1 (by simp [firstIn])
    | cons a l => rw [e] at h; exact h.1
  · simpa using hc


theorem name_one {c : Nat} (hc : c ∈ LET.cps.toList) : firstIn (⟨#[c]⟩ : Str).cps.toList = true ∧ (⟨#[c]⟩ : Str).cps.toList.all (fun c => decide (c ∈ SIG.cps.toList)) = true :=
  ⟨decide_eq_true hc, by simpa using let_sig c hc⟩
def SIG2 : Str := Str.ofString "abcdefghijklmnopqrstuvwxyz" ++ Str.ofString "0123456789"
theorem sig2_sig : ∀ c ∈ SIG2.cps.toList, c ∈ SIG.cps.toList := by decide +kernel
theorem isName_of {s : Str} (h0 : 0 < s.length) (h1 : s.length ≤ 8) (h : firstIn s.cps.toList = true ∧ s.cps.toList.all (fun c => decide (c ∈ SIG.cps.toList)) = true) : isNameS s = true := by
  unfold isNameS
  rw [decide_eq_true h0, decide_eq_true h1, h.1, h.2]
  rfl

theorem ok__law_name (T : Tx K mg A) : FnOk P w K mg base (L2.CX P w) 4 A.a__law_name A.f__law_name ["store"] (spD K 1 sp__law_name) := by
  refine fn_okD T.F__law_name sc__law_name (by decide) (fun cdv A0 outer s H E g hK hr cy => ?_)
  refine ⟨_, _, (dss_cons (ds_asg 1 de_str sc__law_name.nd)
    (dss_cons (ds_asg 2 (de_add cy (de_var 1) de_str) sc__law_name.nd)
    (dss_cons (ds_asg 3 de_int sc__law_name.nd)
    (dss_cons (ds_if (dt_gt cy (de_call cy (ok__law_take T) mono__law_take (hr.mono (by decide)) (by rfl) T.m__law_take T.F__law_take.kp T.b__law_take (da_cons (de_var 0) (da_cons de_int da_nil))) de_int) (dss_one (ds_asg 3 (de_call cy (ok__law_number T) mono__law_number (hr.mono (by decide)) (by rfl) T.m__law_number T.F__law_number.kp T.b__law_number (da_cons (de_var 0) (da_cons de_int (da_cons de_int da_nil)))) sc__law_name.nd)) dss_nil)
    (dss_cons (ds_asg 4 (de_call cy (ok__law_pick T) mono__law_pick (hr.mono (by decide)) (by rfl) T.m__law_pick T.F__law_pick.kp T.b__law_pick (da_cons (de_var 0) (da_cons (de_var 1) da_nil))) sc__law_name.nd)
    (dss_cons (ds_for cy (di_range1 (by rfl) T.m_range (da_cons (de_sub cy (de_var 3) de_int) da_nil)) (dg_name 5 sc__law_name.nd) (dss_one (ds_asg 4 (de_add cy (de_var 4) (de_call cy (ok__law_pick T) mono__law_pick (hr.mono (by decide)) (by rfl) T.m__law_pick T.F__law_pick.kp T.b__law_pick (da_cons (de_var 0) (da_cons (de_var 2) da_nil)))) sc__law_name.nd)))
    (dss_one (ds_ret (de_var 4))))))))), fun rs Q Ex hl h => ?_⟩
  obtain ⟨rfl, h⟩ := h
  simp -dsimp only [↓W_var, ↓W_var1, ↓W_var2, ↓W_var3, ↓W_c, ↓W_frz, ↓W_frz1, ↓W_frz2, ↓W_frz3, ↓W_frz4, ↓W_op, ↓W_call, ↓W_fn, ↓W_fn0, ↓W_fnK, ↓W_nil, ↓W_cons, ↓W_add1, ↓W_add2, ↓W_add3, ↓W_add4, ↓W_add5, ↓W_add6, ↓W_add7, ↓W_int, ↓W_int0, ↓W_mul1, ↓W_mul2, ↓W_eq1, ↓W_eq2, ↓W_eq3, ↓W_eq4, ↓W_ne1, ↓W_ne2, ↓W_ne3, ↓W_in1, ↓W_in2, ↓W_in3, ↓W_in4, ↓W_in5, ↓W_is1, ↓W_is2, ↓W_at, ↓W_atS, ↓W_ix1, ↓W_ix2, ↓W_ix3, ↓W_ix4, ↓W_sl, ↓W_on, ↓W_os, ↓W_part, ↓W_sl1, ↓W_sl2, ↓W_sl3, ↓W_sl4, ↓W_len1, ↓W_len2, ↓W_len3, ↓W_len4, ↓W_abs, ↓W_intf, ↓W_strf, ↓W_list1, ↓W_list2, ↓W_list3, ↓W_tup1, ↓W_tup2, ↓W_tup3, ↓W_max, ↓W_min, ↓W_allK, ↓W_all1, ↓W_isi1, ↓W_isi2, ↓W_k_ns, ↓W_k_bs, ↓W_k_is, ↓W_k_ss, ↓W_k_ts, ↓W_k_ls, ↓W_k_nb, ↓W_k_bb, ↓W_k_ib, ↓W_k_sb, ↓W_k_tb, ↓W_k_lb, ↓W_k_ni, ↓W_k_bi, ↓W_k_ii, ↓W_k_si, ↓W_k_ti, ↓W_k_li, ↓W_k_nt, ↓W_k_bt, ↓W_k_it, ↓W_k_st, ↓W_k_tt, ↓W_k_lt, ↓W_k_nl, ↓W_k_bl, ↓W_k_il, ↓W_k_sl, ↓W_k_tl, ↓W_k_ll, ↓W_valsK, ↓W_etup, ↓W_elst, ↓W_vals0, ↓W_vals1, ↓W_bool, ↓W_bool1, ↓W_tand, ↓W_tor, ↓W_tnot, ↓W_tru, ↓W_tru1, ↓W_tru2, ↓W_tru3, ↓W_tru4, ↓W_tru5, ↓W_tru6, ↓W_tru7, ↓W_bo, ↓W_eand, ↓W_eor, ↓W_enot, ↓W_ink, ↓W_eneg, ↓W_snil, ↓W_seq, ↓W_asg, ↓W_asg1, ↓W_asg2, ↓W_asg3, ↓W_ret, ↓W_hand1, ↓W_hand2, ↓W_hand3, ↓W_hand4, ↓W_expr, ↓W_if, ↓W_for, ↓W_any, ↓W_it1, ↓W_it2, ↓W_it3, ↓W_rg1, ↓W_lc, ↓W_bn, ↓W_yes, ↓W_ownK, ↓W_mut, ↓W_app, ↓W_ins, ↓W_setK, ↓W_stK, ↓W_setIx, ↓W_strK, ↓W_upper, ↓W_join1, ↓W_start, ↓W_slot1, ↓W_slot2, ↓W_arg1, ↓W_arg2, ↓W_sFrz, ↓W_strb, endsD, wipeE, List.foldr_cons, List.foldr_nil, List.length_cons, List.length_nil, List.map_cons, List.map_nil, List.cons_append, List.nil_append, List.append_nil, List.replicate, List.getElem?_cons_zero, List.getElem?_cons_succ, List.getElem?_nil, List.set_cons_zero, List.set_cons_succ, Nat.reduceAdd, Nat.reduceSub, Nat.zero_add, if_true, if_false, Bool.false_eq_true, Bool.not_true, Bool.not_false, true_and, and_true, List.forall_mem_cons, List.mem_cons, List.not_mem_nil, or_false, forall_eq_or_imp, forall_eq, false_and, and_false, implies_true, false_or, Option.map_some, Option.map_none, ite_self, Bool.and_true, Bool.true_and, Bool.and_false, Bool.false_and, List.forall_mem_nil, decide_true, decide_false, isNonD, signsD]
  refine ⟨by decide, take_of (by decide) fun r r0 _ r1 => ?_⟩
  simp -dsimp only [↓W_var, ↓W_var1, ↓W_var2, ↓W_var3, ↓W_c, ↓W_frz, ↓W_frz1, ↓W_frz2, ↓W_frz3, ↓W_frz4, ↓W_op, ↓W_call, ↓W_fn, ↓W_fn0, ↓W_fnK, ↓W_nil, ↓W_cons, ↓W_add1, ↓W_add2, ↓W_add3, ↓W_add4, ↓W_add5, ↓W_add6, ↓W_add7, ↓W_int, ↓W_int0, ↓W_mul1, ↓W_mul2, ↓W_eq1, ↓W_eq2, ↓W_eq3, ↓W_eq4, ↓W_ne1, ↓W_ne2, ↓W_ne3, ↓W_in1, ↓W_in2, ↓W_in3, ↓W_in4, ↓W_in5, ↓W_is1, ↓W_is2, ↓W_at, ↓W_atS, ↓W_ix1, ↓W_ix2, ↓W_ix3, ↓W_ix4, ↓W_sl, ↓W_on, ↓W_os, ↓W_part, ↓W_sl1, ↓W_sl2, ↓W_sl3, ↓W_sl4, ↓W_len1, ↓W_len2, ↓W_len3, ↓W_len4, ↓W_abs, ↓W_intf, ↓W_strf, ↓W_list1, ↓W_list2, ↓W_list3, ↓W_tup1, ↓W_tup2, ↓W_tup3, ↓W_max, ↓W_min, ↓W_allK, ↓W_all1, ↓W_isi1, ↓W_isi2, ↓W_k_ns, ↓W_k_bs, ↓W_k_is, ↓W_k_ss, ↓W_k_ts, ↓W_k_ls, ↓W_k_nb, ↓W_k_bb, ↓W_k_ib, ↓W_k_sb, ↓W_k_tb, ↓W_k_lb, ↓W_k_ni, ↓W_k_bi, ↓W_k_ii, ↓W_k_si, ↓W_k_ti, ↓W_k_li, ↓W_k_nt, ↓W_k_bt, ↓W_k_it, ↓W_k_st, ↓W_k_tt, ↓W_k_lt, ↓W_k_nl, ↓W_k_bl, ↓W_k_il, ↓W_k_sl, ↓W_k_tl, ↓W_k_ll, ↓W_valsK, ↓W_etup, ↓W_elst, ↓W_vals0, ↓W_vals1, ↓W_bool, ↓W_bool1, ↓W_tand, ↓W_tor, ↓W_tnot, ↓W_tru, ↓W_tru1, ↓W_tru2, ↓W_tru3, ↓W_tru4, ↓W_tru5, ↓W_tru6, ↓W_tru7, ↓W_bo, ↓W_eand, ↓W_eor, ↓W_enot, ↓W_ink, ↓W_eneg, ↓W_snil, ↓W_seq, ↓W_asg, ↓W_asg1, ↓W_asg2, ↓W_asg3, ↓W_ret, ↓W_hand1, ↓W_hand2, ↓W_hand3, ↓W_hand4, ↓W_expr, ↓W_if, ↓W_for, ↓W_any, ↓W_it1, ↓W_it2, ↓W_it3, ↓W_rg1, ↓W_lc, ↓W_bn, ↓W_yes, ↓W_ownK, ↓W_mut, ↓W_app, ↓W_ins, ↓W_setK, ↓W_stK, ↓W_setIx, ↓W_strK, ↓W_upper, ↓W_join1, ↓W_start, ↓W_slot1, ↓W_slot2, ↓W_arg1, ↓W_arg2, ↓W_sFrz, ↓W_strb, endsD, wipeE, List.foldr_cons, List.foldr_nil, List.length_cons, List.length_nil, List.map_cons, List.map_nil, List.cons_append, List.nil_append, List.append_nil, List.replicate, List.getElem?_cons_zero, List.getElem?_cons_succ, List.getElem?_nil, List.set_cons_zero, List.set_cons_succ, Nat.reduceAdd, Nat.reduceSub, Nat.zero_add, if_true, if_false, Bool.false_eq_true, Bool.not_true, Bool.not_false, true_and, and_true, List.forall_mem_cons, List.mem_cons, List.not_mem_nil, or_false, forall_eq_or_imp, forall_eq, false_and, and_false, implies_true, false_or, Option.map_some, Option.map_none, ite_self, Bool.and_true, Bool.true_and, Bool.and_false, Bool.false_and, List.forall_mem_nil, decide_true, decide_false, isNonD, signsD]
  refine iteB (fun _ => ?_) (fun _ => ?_)
  · refine number_of (by decide) (by decide) fun n n0 n1 => ?_
    simp -dsimp only [↓W_var, ↓W_var1, ↓W_var2, ↓W_var3, ↓W_c, ↓W_frz, ↓W_frz1, ↓W_frz2, ↓W_frz3, ↓W_frz4, ↓W_op, ↓W_call, ↓W_fn, ↓W_fn0, ↓W_fnK, ↓W_nil, ↓W_cons, ↓W_add1, ↓W_add2, ↓W_add3, ↓W_add4, ↓W_add5, ↓W_add6, ↓W_add7, ↓W_int, ↓W_int0, ↓W_mul1, ↓W_mul2, ↓W_eq1, ↓W_eq2, ↓W_eq3, ↓W_eq4, ↓W_ne1, ↓W_ne2, ↓W_ne3, ↓W_in1, ↓W_in2, ↓W_in3, ↓W_in4, ↓W_in5, ↓W_is1, ↓W_is2, ↓W_at, ↓W_atS, ↓W_ix1, ↓W_ix2, ↓W_ix3, ↓W_ix4, ↓W_sl, ↓W_on, ↓W_os, ↓W_part, ↓W_sl1, ↓W_sl2, ↓W_sl3, ↓W_sl4, ↓W_len1, ↓W_len2, ↓W_len3, ↓W_len4, ↓W_abs, ↓W_intf, ↓W_strf, ↓W_list1, ↓W_list2, ↓W_list3, ↓W_tup1, ↓W_tup2, ↓W_tup3, ↓W_max, ↓W_min, ↓W_allK, ↓W_all1, ↓W_isi1, ↓W_isi2, ↓W_k_ns, ↓W_k_bs, ↓W_k_is, ↓W_k_ss, ↓W_k_ts, ↓W_k_ls, ↓W_k_nb, ↓W_k_bb, ↓W_k_ib, ↓W_k_sb, ↓W_k_tb, ↓W_k_lb, ↓W_k_ni, ↓W_k_bi, ↓W_k_ii, ↓W_k_si, ↓W_k_ti, ↓W_k_li, ↓W_k_nt, ↓W_k_bt, ↓W_k_it, ↓W_k_st, ↓W_k_tt, ↓W_k_lt, ↓W_k_nl, ↓W_k_bl, ↓W_k_il, ↓W_k_sl, ↓W_k_tl, ↓W_k_ll, ↓W_valsK, ↓W_etup, ↓W_elst, ↓W_vals0, ↓W_vals1, ↓W_bool, ↓W_bool1, ↓W_tand, ↓W_tor, ↓W_tnot, ↓W_tru, ↓W_tru1, ↓W_tru2, ↓W_tru3, ↓W_tru4, ↓W_tru5, ↓W_tru6, ↓W_tru7, ↓W_bo, ↓W_eand, ↓W_eor, ↓W_enot, ↓W_ink, ↓W_eneg, ↓W_snil, ↓W_seq, ↓W_asg, ↓W_asg1, ↓W_asg2, ↓W_asg3, ↓W_ret, ↓W_hand1, ↓W_hand2, ↓W_hand3, ↓W_hand4, ↓W_expr, ↓W_if, ↓W_for, ↓W_any, ↓W_it1, ↓W_it2, ↓W_it3, ↓W_rg1, ↓W_lc, ↓W_bn, ↓W_yes, ↓W_ownK, ↓W_mut, ↓W_app, ↓W_ins, ↓W_setK, ↓W_stK, ↓W_setIx, ↓W_strK, ↓W_upper, ↓W_join1, ↓W_start, ↓W_slot1, ↓W_slot2, ↓W_arg1, ↓W_arg2, ↓W_sFrz, ↓W_strb, endsD, wipeE, List.foldr_cons, List.foldr_nil, List.length_cons, List.length_nil, List.map_cons, List.map_nil, List.cons_append, List.nil_append, List.append_nil, List.replicate, List.getElem?_cons_zero, List.getElem?_cons_succ, List.getElem?_nil, List.set_cons_zero, List.set_cons_succ, Nat.reduceAdd, Nat.reduceSub, Nat.zero_add, if_true, if_false, Bool.false_eq_true, Bool.not_true, Bool.not_false, true_and, and_true, List.forall_mem_cons, List.mem_cons, List.not_mem_nil, or_false, forall_eq_or_imp, forall_eq, false_and, and_false, implies_true, false_or, Option.map_some, Option.map_none, ite_self, Bool.and_true, Bool.true_and, Bool.and_false, Bool.false_and, List.forall_mem_nil, decide_true, decide_false, isNonD, signsD]
    refine pick_str (s := LET) (by decide +kernel) (by decide +kernel) fun c hc => ?_
    simp -dsimp only [↓W_var, ↓W_var1, ↓W_var2, ↓W_var3, ↓W_c, ↓W_frz, ↓W_frz1, ↓W_frz2, ↓W_frz3, ↓W_frz4, ↓W_op, ↓W_call, ↓W_fn, ↓W_fn0, ↓W_fnK, ↓W_nil, ↓W_cons, ↓W_add1, ↓W_add2, ↓W_add3, ↓W_add4, ↓W_add5, ↓W_add6, ↓W_add7, ↓W_int, ↓W_int0, ↓W_mul1, ↓W_mul2, ↓W_eq1, ↓W_eq2, ↓W_eq3, ↓W_eq4, ↓W_ne1, ↓W_ne2, ↓W_ne3, ↓W_in1, ↓W_in2, ↓W_in3, ↓W_in4, ↓W_in5, ↓W_is1, ↓W_is2, ↓W_at, ↓W_atS, ↓W_ix1, ↓W_ix2, ↓W_ix3, ↓W_ix4, ↓W_sl, ↓W_on, ↓W_os, ↓W_part, ↓W_sl1, ↓W_sl2, ↓W_sl3, ↓W_sl4, ↓W_len1, ↓W_len2, ↓W_len3, ↓W_len4, ↓W_abs, ↓W_intf, ↓W_strf, ↓W_list1, ↓W_list2, ↓W_list3, ↓W_tup1, ↓W_tup2, ↓W_tup3, ↓W_max, ↓W_min, ↓W_allK, ↓W_all1, ↓W_isi1, ↓W_isi2, ↓W_k_ns, ↓W_k_bs, ↓W_k_is, ↓W_k_ss, ↓W_k_ts, ↓W_k_ls, ↓W_k_nb, ↓W_k_bb, ↓W_k_ib, ↓W_k_sb, ↓W_k_tb, ↓W_k_lb, ↓W_k_ni, ↓W_k_bi, ↓W_k_ii, ↓W_k_si, ↓W_k_ti, ↓W_k_li, ↓W_k_nt, ↓W_k_bt, ↓W_k_it, ↓W_k_st, ↓W_k_tt, ↓W_k_lt, ↓W_k_nl, ↓W_k_bl, ↓W_k_il, ↓W_k_sl, ↓W_k_tl, ↓W_k_ll, ↓W_valsK, ↓W_etup, ↓W_elst, ↓W_vals0, ↓W_vals1, ↓W_bool, ↓W_bool1, ↓W_tand, ↓W_tor, ↓W_tnot, ↓W_tru, ↓W_tru1, ↓W_tru2, ↓W_tru3, ↓W_tru4, ↓W_tru5, ↓W_tru6, ↓W_tru7, ↓W_bo, ↓W_eand, ↓W_eor, ↓W_enot, ↓W_ink, ↓W_eneg, ↓W_snil, ↓W_seq, ↓W_asg, ↓W_asg1, ↓W_asg2, ↓W_asg3, ↓W_ret, ↓W_hand1, ↓W_hand2, ↓W_hand3, ↓W_hand4, ↓W_expr, ↓W_if, ↓W_for, ↓W_any, ↓W_it1, ↓W_it2, ↓W_it3, ↓W_rg1, ↓W_lc, ↓W_bn, ↓W_yes, ↓W_ownK, ↓W_mut, ↓W_app, ↓W_ins, ↓W_setK, ↓W_stK, ↓W_setIx, ↓W_strK, ↓W_upper, ↓W_join1, ↓W_start, ↓W_slot1, ↓W_slot2, ↓W_arg1, ↓W_arg2, ↓W_sFrz, ↓W_strb, endsD, wipeE, List.foldr_cons, List.foldr_nil, List.length_cons, List.length_nil, List.map_cons, List.map_nil, List.cons_append, List.nil_append, List.append_nil, List.replicate, List.getElem?_cons_zero, List.getElem?_cons_succ, List.getElem?_nil, List.set_cons_zero, List.set_cons_succ, Nat.reduceAdd, Nat.reduceSub, Nat.zero_add, if_true, if_false, Bool.false_eq_true, Bool.not_true, Bool.not_false, true_and, and_true, List.forall_mem_cons, List.mem_cons, List.not_mem_nil, or_false, forall_eq_or_imp, forall_eq, false_and, and_false, implies_true, false_or, Option.map_some, Option.map_none, ite_self, Bool.and_true, Bool.true_and, Bool.and_false, Bool.false_and, List.forall_mem_nil, decide_true, decide_false, isNonD, signsD]
    refine ⟨by omega, by omega, nn_of (by rw [range_len]; omega), ?_⟩
    refine forW_inv (fun i env => ∃ (z : Option SV) (wd : Str), env = [some .sto, some (.val (.str LET)), some (.val (.str SIG2)), some (.val (.int n)), some (.val (.str wd)), z] ∧ wd.length = 1 + i ∧ (firstIn wd.cps.toList = true ∧ wd.cps.toList.all (fun c => decide (c ∈ SIG.cps.toList)) = true)) (fun i d env N hi ⟨z, wd, e, h1, h2⟩ hN => ?_) (fun env ⟨z, wd, e, h1, h2⟩ => ?_) _ ⟨_, _, rfl, rfl, name_one hc⟩
    · subst e
      have hi2 : i < 8 := by
        have := (range_at hi).1
        omega
      simp -dsimp only [↓W_var, ↓W_var1, ↓W_var2, ↓W_var3, ↓W_c, ↓W_frz, ↓W_frz1, ↓W_frz2, ↓W_frz3, ↓W_frz4, ↓W_op, ↓W_call, ↓W_fn, ↓W_fn0, ↓W_fnK, ↓W_nil, ↓W_cons, ↓W_add1, ↓W_add2, ↓W_add3, ↓W_add4, ↓W_add5, ↓W_add6, ↓W_add7, ↓W_int, ↓W_int0, ↓W_mul1, ↓W_mul2, ↓W_eq1, ↓W_eq2, ↓W_eq3, ↓W_eq4, ↓W_ne1, ↓W_ne2, ↓W_ne3, ↓W_in1, ↓W_in2, ↓W_in3, ↓W_in4, ↓W_in5, ↓W_is1, ↓W_is2, ↓W_at, ↓W_atS, ↓W_ix1, ↓W_ix2, ↓W_ix3, ↓W_ix4, ↓W_sl, ↓W_on, ↓W_os, ↓W_part, ↓W_sl1, ↓W_sl2, ↓W_sl3, ↓W_sl4, ↓W_len1, ↓W_len2, ↓W_len3, ↓W_len4, ↓W_abs, ↓W_intf, ↓W_strf, ↓W_list1, ↓W_list2, ↓W_list3, ↓W_tup1, ↓W_tup2, ↓W_tup3, ↓W_max, ↓W_min, ↓W_allK, ↓W_all1, ↓W_isi1, ↓W_isi2, ↓W_k_ns, ↓W_k_bs, ↓W_k_is, ↓W_k_ss, ↓W_k_ts, ↓W_k_ls, ↓W_k_nb, ↓W_k_bb, ↓W_k_ib, ↓W_k_sb, ↓W_k_tb, ↓W_k_lb, ↓W_k_ni, ↓W_k_bi, ↓W_k_ii, ↓W_k_si, ↓W_k_ti, ↓W_k_li, ↓W_k_nt, ↓W_k_bt, ↓W_k_it, ↓W_k_st, ↓W_k_tt, ↓W_k_lt, ↓W_k_nl, ↓W_k_bl, ↓W_k_il, ↓W_k_sl, ↓W_k_tl, ↓W_k_ll, ↓W_valsK, ↓W_etup, ↓W_elst, ↓W_vals0, ↓W_vals1, ↓W_bool, ↓W_bool1, ↓W_tand, ↓W_tor, ↓W_tnot, ↓W_tru, ↓W_tru1, ↓W_tru2, ↓W_tru3, ↓W_tru4, ↓W_tru5, ↓W_tru6, ↓W_tru7, ↓W_bo, ↓W_eand, ↓W_eor, ↓W_enot, ↓W_ink, ↓W_eneg, ↓W_snil, ↓W_seq, ↓W_asg, ↓W_asg1, ↓W_asg2, ↓W_asg3, ↓W_ret, ↓W_hand1, ↓W_hand2, ↓W_hand3, ↓W_hand4, ↓W_expr, ↓W_if, ↓W_for, ↓W_any, ↓W_it1, ↓W_it2, ↓W_it3, ↓W_rg1, ↓W_lc, ↓W_bn, ↓W_yes, ↓W_ownK, ↓W_mut, ↓W_app, ↓W_ins, ↓W_setK, ↓W_stK, ↓W_setIx, ↓W_strK, ↓W_upper, ↓W_join1, ↓W_start, ↓W_slot1, ↓W_slot2, ↓W_arg1, ↓W_arg2, ↓W_sFrz, ↓W_strb, endsD, wipeE, List.foldr_cons, List.foldr_nil, List.length_cons, List.length_nil, List.map_cons, List.map_nil, List.cons_append, List.nil_append, List.append_nil, List.replicate, List.getElem?_cons_zero, List.getElem?_cons_succ, List.getElem?_nil, List.set_cons_zero, List.set_cons_succ, Nat.reduceAdd, Nat.reduceSub, Nat.zero_add, if_true, if_false, Bool.false_eq_true, Bool.not_true, Bool.not_false, true_and, and_true, List.forall_mem_cons, List.mem_cons, List.not_mem_nil, or_false, forall_eq_or_imp, forall_eq, false_and, and_false, implies_true, false_or, Option.map_some, Option.map_none, ite_self, Bool.and_true, Bool.true_and, Bool.and_false, Bool.false_and, List.forall_mem_nil, decide_true, decide_false, isNonD, signsD]
      refine pick_str (s := SIG2) (by decide +kernel) (by decide +kernel) fun c2 hc2 => ?_
      simp -dsimp only [↓W_var, ↓W_var1, ↓W_var2, ↓W_var3, ↓W_c, ↓W_frz, ↓W_frz1, ↓W_frz2, ↓W_frz3, ↓W_frz4, ↓W_op, ↓W_call, ↓W_fn, ↓W_fn0, ↓W_fnK, ↓W_nil, ↓W_cons, ↓W_add1, ↓W_add2, ↓W_add3, ↓W_add4, ↓W_add5, ↓W_add6, ↓W_add7, ↓W_int, ↓W_int0, ↓W_mul1, ↓W_mul2, ↓W_eq1, ↓W_eq2, ↓W_eq3, ↓W_eq4, ↓W_ne1, ↓W_ne2, ↓W_ne3, ↓W_in1, ↓W_in2, ↓W_in3, ↓W_in4, ↓W_in5, ↓W_is1, ↓W_is2, ↓W_at, ↓W_atS, ↓W_ix1, ↓W_ix2, ↓W_ix3, ↓W_ix4, ↓W_sl, ↓W_on, ↓W_os, ↓W_part, ↓W_sl1, ↓W_sl2, ↓W_sl3, ↓W_sl4, ↓W_len1, ↓W_len2, ↓W_len3, ↓W_len4, ↓W_abs, ↓W_intf, ↓W_strf, ↓W_list1, ↓W_list2, ↓W_list3, ↓W_tup1, ↓W_tup2, ↓W_tup3, ↓W_max, ↓W_min, ↓W_allK, ↓W_all1, ↓W_isi1, ↓W_isi2, ↓W_k_ns, ↓W_k_bs, ↓W_k_is, ↓W_k_ss, ↓W_k_ts, ↓W_k_ls, ↓W_k_nb, ↓W_k_bb, ↓W_k_ib, ↓W_k_sb, ↓W_k_tb, ↓W_k_lb, ↓W_k_ni, ↓W_k_bi, ↓W_k_ii, ↓W_k_si, ↓W_k_ti, ↓W_k_li, ↓W_k_nt, ↓W_k_bt, ↓W_k_it, ↓W_k_st, ↓W_k_tt, ↓W_k_lt, ↓W_k_nl, ↓W_k_bl, ↓W_k_il, ↓W_k_sl, ↓W_k_tl, ↓W_k_ll, ↓W_valsK, ↓W_etup, ↓W_elst, ↓W_vals0, ↓W_vals1, ↓W_bool, ↓W_bool1, ↓W_tand, ↓W_tor, ↓W_tnot, ↓W_tru, ↓W_tru1, ↓W_tru2, ↓W_tru3, ↓W_tru4, ↓W_tru5, ↓W_tru6, ↓W_tru7, ↓W_bo, ↓W_eand, ↓W_eor, ↓W_enot, ↓W_ink, ↓W_eneg, ↓W_snil, ↓W_seq, ↓W_asg, ↓W_asg1, ↓W_asg2, ↓W_asg3, ↓W_ret, ↓W_hand1, ↓W_hand2, ↓W_hand3, ↓W_hand4, ↓W_expr, ↓W_if, ↓W_for, ↓W_any, ↓W_it1, ↓W_it2, ↓W_it3, ↓W_rg1, ↓W_lc, ↓W_bn, ↓W_yes, ↓W_ownK, ↓W_mut, ↓W_app, ↓W_ins, ↓W_setK, ↓W_stK, ↓W_setIx, ↓W_strK, ↓W_upper, ↓W_join1, ↓W_start, ↓W_slot1, ↓W_slot2, ↓W_arg1, ↓W_arg2, ↓W_sFrz, ↓W_strb, endsD, wipeE, List.foldr_cons, List.foldr_nil, List.length_cons, List.length_nil, List.map_cons, List.map_nil, List.cons_append, List.nil_append, List.append_nil, List.replicate, List.getElem?_cons_zero, List.getElem?_cons_succ, List.getElem?_nil, List.set_cons_zero, List.set_cons_succ, Nat.reduceAdd, Nat.reduceSub, Nat.zero_add, if_true, if_false, Bool.false_eq_true, Bool.not_true, Bool.not_false, true_and, and_true, List.forall_mem_cons, List.mem_cons, List.not_mem_nil, or_false, forall_eq_or_imp, forall_eq, false_and, and_false, implies_true, false_or, Option.map_some, Option.map_none, ite_self, Bool.and_true, Bool.true_and, Bool.and_false, Bool.false_and, List.forall_mem_nil, decide_true, decide_false, isNonD, signsD]
      rw [h1]
      refine ⟨lim_of (by show 1 + i + 1 ≤ _; omega), hN _ ⟨_, _, rfl, ?_, name_add h2 (sig2_sig _ hc2)⟩⟩
      rw [len_add, h1]
      rfl
    · subst e
      simp -dsimp only [↓W_var, ↓W_var1, ↓W_var2, ↓W_var3, ↓W_c, ↓W_frz, ↓W_frz1, ↓W_frz2, ↓W_frz3, ↓W_frz4, ↓W_op, ↓W_call, ↓W_fn, ↓W_fn0, ↓W_fnK, ↓W_nil, ↓W_cons, ↓W_add1, ↓W_add2, ↓W_add3, ↓W_add4, ↓W_add5, ↓W_add6, ↓W_add7, ↓W_int, ↓W_int0, ↓W_mul1, ↓W_mul2, ↓W_eq1, ↓W_eq2, ↓W_eq3, ↓W_eq4, ↓W_ne1, ↓W_ne2, ↓W_ne3, ↓W_in1, ↓W_in2, ↓W_in3, ↓W_in4, ↓W_in5, ↓W_is1, ↓W_is2, ↓W_at, ↓W_atS, ↓W_ix1, ↓W_ix2, ↓W_ix3, ↓W_ix4, ↓W_sl, ↓W_on, ↓W_os, ↓W_part, ↓W_sl1, ↓W_sl2, ↓W_sl3, ↓W_sl4, ↓W_len1, ↓W_len2, ↓W_len3, ↓W_len4, ↓W_abs, ↓W_intf, ↓W_strf, ↓W_list1, ↓W_list2, ↓W_list3, ↓W_tup1, ↓W_tup2, ↓W_tup3, ↓W_max, ↓W_min, ↓W_allK, ↓W_all1, ↓W_isi1, ↓W_isi2, ↓W_k_ns, ↓W_k_bs, ↓W_k_is, ↓W_k_ss, ↓W_k_ts, ↓W_k_ls, ↓W_k_nb, ↓W_k_bb, ↓W_k_ib, ↓W_k_sb, ↓W_k_tb, ↓W_k_lb, ↓W_k_ni, ↓W_k_bi, ↓W_k_ii, ↓W_k_si, ↓W_k_ti, ↓W_k_li, ↓W_k_nt, ↓W_k_bt, ↓W_k_it, ↓W_k_st, ↓W_k_tt, ↓W_k_lt, ↓W_k_nl, ↓W_k_bl, ↓W_k_il, ↓W_k_sl, ↓W_k_tl, ↓W_k_ll, ↓W_valsK, ↓W_etup, ↓W_elst, ↓W_vals0, ↓W_vals1, ↓W_bool, ↓W_bool1, ↓W_tand, ↓W_tor, ↓W_tnot, ↓W_tru, ↓W_tru1, ↓W_tru2, ↓W_tru3, ↓W_tru4, ↓W_tru5, ↓W_tru6, ↓W_tru7, ↓W_bo, ↓W_eand, ↓W_eor, ↓W_enot, ↓W_ink, ↓W_eneg, ↓W_snil, ↓W_seq, ↓W_asg, ↓W_asg1, ↓W_asg2, ↓W_asg3, ↓W_ret, ↓W_hand1, ↓W_hand2, ↓W_hand3, ↓W_hand4, ↓W_expr, ↓W_if, ↓W_for, ↓W_any, ↓W_it1, ↓W_it2, ↓W_it3, ↓W_rg1, ↓W_lc, ↓W_bn, ↓W_yes, ↓W_ownK, ↓W_mut, ↓W_app, ↓W_ins, ↓W_setK, ↓W_stK, ↓W_setIx, ↓W_strK, ↓W_upper, ↓W_join1, ↓W_start, ↓W_slot1, ↓W_slot2, ↓W_arg1, ↓W_arg2, ↓W_sFrz, ↓W_strb, endsD, wipeE, List.foldr_cons, List.foldr_nil, List.length_cons, List.length_nil, List.map_cons, List.map_nil, List.cons_append, List.nil_append, List.append_nil, List.replicate, List.getElem?_cons_zero, List.getElem?_cons_succ, List.getElem?_nil, List.set_cons_zero, List.set_cons_succ, Nat.reduceAdd, Nat.reduceSub, Nat.zero_add, if_true, if_false, Bool.false_eq_true, Bool.not_true, Bool.not_false, true_and, and_true, List.forall_mem_cons, List.mem_cons, List.not_mem_nil, or_false, forall_eq_or_imp, forall_eq, false_and, and_false, implies_true, false_or, Option.map_some, Option.map_none, ite_self, Bool.and_true, Bool.true_and, Bool.and_false, Bool.false_and, List.forall_mem_nil, decide_true, decide_false, isNonD, signsD]
      refine h _ (isName_of (by omega) ?_ h2)
      rw [h1, range_len]
      omega
  · refine pick_str (s := LET) (by decide +kernel) (by decide +kernel) fun c hc => ?_
    simp -dsimp only [↓W_var, ↓W_var1, ↓W_var2, ↓W_var3, ↓W_c, ↓W_frz, ↓W_frz1, ↓W_frz2, ↓W_frz3, ↓W_frz4, ↓W_op, ↓W_call, ↓W_fn, ↓W_fn0, ↓W_fnK, ↓W_nil, ↓W_cons, ↓W_add1, ↓W_add2, ↓W_add3, ↓W_add4, ↓W_add5, ↓W_add6, ↓W_add7, ↓W_int, ↓W_int0, ↓W_mul1, ↓W_mul2, ↓W_eq1, ↓W_eq2, ↓W_eq3, ↓W_eq4, ↓W_ne1, ↓W_ne2, ↓W_ne3, ↓W_in1, ↓W_in2, ↓W_in3, ↓W_in4, ↓W_in5, ↓W_is1, ↓W_is2, ↓W_at, ↓W_atS, ↓W_ix1, ↓W_ix2, ↓W_ix3, ↓W_ix4, ↓W_sl, ↓W_on, ↓W_os, ↓W_part, ↓W_sl1, ↓W_sl2, ↓W_sl3, ↓W_sl4, ↓W_len1, ↓W_len2, ↓W_len3, ↓W_len4, ↓W_abs, ↓W_intf, ↓W_strf, ↓W_list1, ↓W_list2, ↓W_list3, ↓W_tup1, ↓W_tup2, ↓W_tup3, ↓W_max, ↓W_min, ↓W_allK, ↓W_all1, ↓W_isi1, ↓W_isi2, ↓W_k_ns, ↓W_k_bs, ↓W_k_is, ↓W_k_ss, ↓W_k_ts, ↓W_k_ls, ↓W_k_nb, ↓W_k_bb, ↓W_k_ib, ↓W_k_sb, ↓W_k_tb, ↓W_k_lb, ↓W_k_ni, ↓W_k_bi, ↓W_k_ii, ↓W_k_si, ↓W_k_ti, ↓W_k_li, ↓W_k_nt, ↓W_k_bt, ↓W_k_it, ↓W_k_st, ↓W_k_tt, ↓W_k_lt, ↓W_k_nl, ↓W_k_bl, ↓W_k_il, ↓W_k_sl, ↓W_k_tl, ↓W_k_ll, ↓W_valsK, ↓W_etup, ↓W_elst, ↓W_vals0, ↓W_vals1, ↓W_bool, ↓W_bool1, ↓W_tand, ↓W_tor, ↓W_tnot, ↓W_tru, ↓W_tru1, ↓W_tru2, ↓W_tru3, ↓W_tru4, ↓W_tru5, ↓W_tru6, ↓W_tru7, ↓W_bo, ↓W_eand, ↓W_eor, ↓W_enot, ↓W_ink, ↓W_eneg, ↓W_snil, ↓W_seq, ↓W_asg, ↓W_asg1, ↓W_asg2, ↓W_asg3, ↓W_ret, ↓W_hand1, ↓W_hand2, ↓W_hand3, ↓W_hand4, ↓W_expr, ↓W_if, ↓W_for, ↓W_any, ↓W_it1, ↓W_it2, ↓W_it3, ↓W_rg1, ↓W_lc, ↓W_bn, ↓W_yes, ↓W_ownK, ↓W_mut, ↓W_app, ↓W_ins, ↓W_setK, ↓W_stK, ↓W_setIx, ↓W_strK, ↓W_upper, ↓W_join1, ↓W_start, ↓W_slot1, ↓W_slot2, ↓W_arg1, ↓W_arg2, ↓W_sFrz, ↓W_strb, endsD, wipeE, List.foldr_cons, List.foldr_nil, List.length_cons, List.length_nil, List.map_cons, List.map_nil, List.cons_append, List.nil_append, List.append_nil, List.replicate, List.getElem?_cons_zero, List.getElem?_cons_succ, List.getElem?_nil, List.set_cons_zero, List.set_cons_succ, Nat.reduceAdd, Nat.reduceSub, Nat.zero_add, if_true, if_false, Bool.false_eq_true, Bool.not_true, Bool.not_false, true_and, and_true, List.forall_mem_cons, List.mem_cons, List.not_mem_nil, or_false, forall_eq_or_imp, forall_eq, false_and, and_false, implies_true, false_or, Option.map_some, Option.map_none, ite_self, Bool.and_true, Bool.true_and, Bool.and_false, Bool.false_and, List.forall_mem_nil, decide_true, decide_false, isNonD, signsD]
    refine ⟨by omega, by omega, nn_of (by rw [range_len]; omega), ?_⟩
    refine forW_inv (fun i env => ∃ (z : Option SV) (wd : Str), env = [some .sto, some (.val (.str LET)), some (.val (.str SIG2)), some (.val (.int 1)), some (.val (.str wd)), z] ∧ wd.length = 1 + i ∧ (firstIn wd.cps.toList = true ∧ wd.cps.toList.all (fun c => decide (c ∈ SIG.cps.toList)) = true)) (fun i d env N hi ⟨z, wd, e, h1, h2⟩ hN => ?_) (fun env ⟨z, wd, e, h1, h2⟩ => ?_) _ ⟨_, _, rfl, rfl, name_one hc⟩
    · subst e
      have hi2 : i < 8 := by
        have := (range_at hi).1
        omega
      simp -dsimp only [↓W_var, ↓W_var1, ↓W_var2, ↓W_var3, ↓W_c, ↓W_frz, ↓W_frz1, ↓W_frz2, ↓W_frz3, ↓W_frz4, ↓W_op, ↓W_call, ↓W_fn, ↓W_fn0, ↓W_fnK, ↓W_nil, ↓W_cons, ↓W_add1, ↓W_add2, ↓W_add3, ↓W_add4, ↓W_add5, ↓W_add6, ↓W_add7, ↓W_int, ↓W_int0, ↓W_mul1, ↓W_mul2, ↓W_eq1, ↓W_eq2, ↓W_eq3, ↓W_eq4, ↓W_ne1, ↓W_ne2, ↓W_ne3, ↓W_in1, ↓W_in2, ↓W_in3, ↓W_in4, ↓W_in5, ↓W_is1, ↓W_is2, ↓W_at, ↓W_atS, ↓W_ix1, ↓W_ix2, ↓W_ix3, ↓W_ix4, ↓W_sl, ↓W_on, ↓W_os, ↓W_part, ↓W_sl1, ↓W_sl2, ↓W_sl3, ↓W_sl4, ↓W_len1, ↓W_len2, ↓W_len3, ↓W_len4, ↓W_abs, ↓W_intf, ↓W_strf, ↓W_list1, ↓W_list2, ↓W_list3, ↓W_tup1, ↓W_tup2, ↓W_tup3, ↓W_max, ↓W_min, ↓W_allK, ↓W_all1, ↓W_isi1, ↓W_isi2, ↓W_k_ns, ↓W_k_bs, ↓W_k_is, ↓W_k_ss, ↓W_k_ts, ↓W_k_ls, ↓W_k_nb, ↓W_k_bb, ↓W_k_ib, ↓W_k_sb, ↓W_k_tb, ↓W_k_lb, ↓W_k_ni, ↓W_k_bi, ↓W_k_ii, ↓W_k_si, ↓W_k_ti, ↓W_k_li, ↓W_k_nt, ↓W_k_bt, ↓W_k_it, ↓W_k_st, ↓W_k_tt, ↓W_k_lt, ↓W_k_nl, ↓W_k_bl, ↓W_k_il, ↓W_k_sl, ↓W_k_tl, ↓W_k_ll, ↓W_valsK, ↓W_etup, ↓W_elst, ↓W_vals0, ↓W_vals1, ↓W_bool, ↓W_bool1, ↓W_tand, ↓W_tor, ↓W_tnot, ↓W_tru, ↓W_tru1, ↓W_tru2, ↓W_tru3, ↓W_tru4, ↓W_tru5, ↓W_tru6, ↓W_tru7, ↓W_bo, ↓W_eand, ↓W_eor, ↓W_enot, ↓W_ink, ↓W_eneg, ↓W_snil, ↓W_seq, ↓W_asg, ↓W_asg1, ↓W_asg2, ↓W_asg3, ↓W_ret, ↓W_hand1, ↓W_hand2, ↓W_hand3, ↓W_hand4, ↓W_expr, ↓W_if, ↓W_for, ↓W_any, ↓W_it1, ↓W_it2, ↓W_it3, ↓W_rg1, ↓W_lc, ↓W_bn, ↓W_yes, ↓W_ownK, ↓W_mut, ↓W_app, ↓W_ins, ↓W_setK, ↓W_stK, ↓W_setIx, ↓W_strK, ↓W_upper, ↓W_join1, ↓W_start, ↓W_slot1, ↓W_slot2, ↓W_arg1, ↓W_arg2, ↓W_sFrz, ↓W_strb, endsD, wipeE, List.foldr_cons, List.foldr_nil, List.length_cons, List.length_nil, List.map_cons, List.map_nil, List.cons_append, List.nil_append, List.append_nil, List.replicate, List.getElem?_cons_zero, List.getElem?_cons_succ, List.getElem?_nil, List.set_cons_zero, List.set_cons_succ, Nat.reduceAdd, Nat.reduceSub, Nat.zero_add, if_true, if_false, Bool.false_eq_true, Bool.not_true, Bool.not_false, true_and, and_true, List.forall_mem_cons, List.mem_cons, List.not_mem_nil, or_false, forall_eq_or_imp, forall_eq, false_and, and_false, implies_true, false_or, Option.map_some, Option.map_none, ite_self, Bool.and_true, Bool.true_and, Bool.and_false, Bool.false_and, List.forall_mem_nil, decide_true, decide_false, isNonD, signsD]
      refine pick_str (s := SIG2) (by decide +kernel) (by decide +kernel) fun c2 hc2 => ?_
      simp -dsimp only [↓W_var, ↓W_var1, ↓W_var2, ↓W_var3, ↓W_c, ↓W_frz, ↓W_frz1, ↓W_frz2, ↓W_frz3, ↓W_frz4, ↓W_op, ↓W_call, ↓W_fn, ↓W_fn0, ↓W_fnK, ↓W_nil, ↓W_cons, ↓W_add1, ↓W_add2, ↓W_add3, ↓W_add4, ↓W_add5, ↓W_add6, ↓W_add7, ↓W_int, ↓W_int0, ↓W_mul1, ↓W_mul2, ↓W_eq1, ↓W_eq2, ↓W_eq3, ↓W_eq4, ↓W_ne1, ↓W_ne2, ↓W_ne3, ↓W_in1, ↓W_in2, ↓W_in3, ↓W_in4, ↓W_in5, ↓W_is1, ↓W_is2, ↓W_at, ↓W_atS, ↓W_ix1, ↓W_ix2, ↓W_ix3, ↓W_ix4, ↓W_sl, ↓W_on, ↓W_os, ↓W_part, ↓W_sl1, ↓W_sl2, ↓W_sl3, ↓W_sl4, ↓W_len1, ↓W_len2, ↓W_len3, ↓W_len4, ↓W_abs, ↓W_intf, ↓W_strf, ↓W_list1, ↓W_list2, ↓W_list3, ↓W_tup1, ↓W_tup2, ↓W_tup3, ↓W_max, ↓W_min, ↓W_allK, ↓W_all1, ↓W_isi1, ↓W_isi2, ↓W_k_ns, ↓W_k_bs, ↓W_k_is, ↓W_k_ss, ↓W_k_ts, ↓W_k_ls, ↓W_k_nb, ↓W_k_bb, ↓W_k_ib, ↓W_k_sb, ↓W_k_tb, ↓W_k_lb, ↓W_k_ni, ↓W_k_bi, ↓W_k_ii, ↓W_k_si, ↓W_k_ti, ↓W_k_li, ↓W_k_nt, ↓W_k_bt, ↓W_k_it, ↓W_k_st, ↓W_k_tt, ↓W_k_lt, ↓W_k_nl, ↓W_k_bl, ↓W_k_il, ↓W_k_sl, ↓W_k_tl, ↓W_k_ll, ↓W_valsK, ↓W_etup, ↓W_elst, ↓W_vals0, ↓W_vals1, ↓W_bool, ↓W_bool1, ↓W_tand, ↓W_tor, ↓W_tnot, ↓W_tru, ↓W_tru1, ↓W_tru2, ↓W_tru3, ↓W_tru4, ↓W_tru5, ↓W_tru6, ↓W_tru7, ↓W_bo, ↓W_eand, ↓W_eor, ↓W_enot, ↓W_ink, ↓W_eneg, ↓W_snil, ↓W_seq, ↓W_asg, ↓W_asg1, ↓W_asg2, ↓W_asg3, ↓W_ret, ↓W_hand1, ↓W_hand2, ↓W_hand3, ↓W_hand4, ↓W_expr, ↓W_if, ↓W_for, ↓W_any, ↓W_it1, ↓W_it2, ↓W_it3, ↓W_rg1, ↓W_lc, ↓W_bn, ↓W_yes, ↓W_ownK, ↓W_mut, ↓W_app, ↓W_ins, ↓W_setK, ↓W_stK, ↓W_setIx, ↓W_strK, ↓W_upper, ↓W_join1, ↓W_start, ↓W_slot1, ↓W_slot2, ↓W_arg1, ↓W_arg2, ↓W_sFrz, ↓W_strb, endsD, wipeE, List.foldr_cons, List.foldr_nil, List.length_cons, List.length_nil, List.map_cons, List.map_nil, List.cons_append, List.nil_append, List.append_nil, List.replicate, List.getElem?_cons_zero, List.getElem?_cons_succ, List.getElem?_nil, List.set_cons_zero, List.set_cons_succ, Nat.reduceAdd, Nat.reduceSub, Nat.zero_add, if_true, if_false, Bool.false_eq_true, Bool.not_true, Bool.not_false, true_and, and_true, List.forall_mem_cons, List.mem_cons, List.not_mem_nil, or_false, forall_eq_or_imp, forall_eq, false_and, and_false, implies_true, false_or, Option.map_some, Option.map_none, ite_self, Bool.and_true, Bool.true_and, Bool.and_false, Bool.false_and, List.forall_mem_nil, decide_true, decide_false, isNonD, signsD]
      rw [h1]
      refine ⟨lim_of (by show 1 + i + 1 ≤ _; omega), hN _ ⟨_, _, rfl, ?_, name_add h2 (sig2_sig _ hc2)⟩⟩
      rw [len_add, h1]
      rfl
    · subst e
      simp -dsimp only [↓W_var, ↓W_var1, ↓W_var2, ↓W_var3, ↓W_c, ↓W_frz, ↓W_frz1, ↓W_frz2, ↓W_frz3, ↓W_frz4, ↓W_op, ↓W_call, ↓W_fn, ↓W_fn0, ↓W_fnK, ↓W_nil, ↓W_cons, ↓W_add1, ↓W_add2, ↓W_add3, ↓W_add4, ↓W_add5, ↓W_add6, ↓W_add7, ↓W_int, ↓W_int0, ↓W_mul1, ↓W_mul2, ↓W_eq1, ↓W_eq2, ↓W_eq3, ↓W_eq4, ↓W_ne1, ↓W_ne2, ↓W_ne3, ↓W_in1, ↓W_in2, ↓W_in3, ↓W_in4, ↓W_in5, ↓W_is1, ↓W_is2, ↓W_at, ↓W_atS, ↓W_ix1, ↓W_ix2, ↓W_ix3, ↓W_ix4, ↓W_sl, ↓W_on, ↓W_os, ↓W_part, ↓W_sl1, ↓W_sl2, ↓W_sl3, ↓W_sl4, ↓W_len1, ↓W_len2, ↓W_len3, ↓W_len4, ↓W_abs, ↓W_intf, ↓W_strf, ↓W_list1, ↓W_list2, ↓W_list3, ↓W_tup1, ↓W_tup2, ↓W_tup3, ↓W_max, ↓W_min, ↓W_allK, ↓W_all1, ↓W_isi1, ↓W_isi2, ↓W_k_ns, ↓W_k_bs, ↓W_k_is, ↓W_k_ss, ↓W_k_ts, ↓W_k_ls, ↓W_k_nb, ↓W_k_bb, ↓W_k_ib, ↓W_k_sb, ↓W_k_tb, ↓W_k_lb, ↓W_k_ni, ↓W_k_bi, ↓W_k_ii, ↓W_k_si, ↓W_k_ti, ↓W_k_li, ↓W_k_nt, ↓W_k_bt, ↓W_k_it, ↓W_k_st, ↓W_k_tt, ↓W_k_lt, ↓W_k_nl, ↓W_k_bl, ↓W_k_il, ↓W_k_sl, ↓W_k_tl, ↓W_k_ll, ↓W_valsK, ↓W_etup, ↓W_elst, ↓W_vals0, ↓W_vals1, ↓W_bool, ↓W_bool1, ↓W_tand, ↓W_tor, ↓W_tnot, ↓W_tru, ↓W_tru1, ↓W_tru2, ↓W_tru3, ↓W_tru4, ↓W_tru5, ↓W_tru6, ↓W_tru7, ↓W_bo, ↓W_eand, ↓W_eor, ↓W_enot, ↓W_ink, ↓W_eneg, ↓W_snil, ↓W_seq, ↓W_asg, ↓W_asg1, ↓W_asg2, ↓W_asg3, ↓W_ret, ↓W_hand1, ↓W_hand2, ↓W_hand3, ↓W_hand4, ↓W_expr, ↓W_if, ↓W_for, ↓W_any, ↓W_it1, ↓W_it2, ↓W_it3, ↓W_rg1, ↓W_lc, ↓W_bn, ↓W_yes, ↓W_ownK, ↓W_mut, ↓W_app, ↓W_ins, ↓W_setK, ↓W_stK, ↓W_setIx, ↓W_strK, ↓W_upper, ↓W_join1, ↓W_start, ↓W_slot1, ↓W_slot2, ↓W_arg1, ↓W_arg2, ↓W_sFrz, ↓W_strb, endsD, wipeE, List.foldr_cons, List.foldr_nil, List.length_cons, List.length_nil, List.map_cons, List.map_nil, List.cons_append, List.nil_append, List.append_nil, List.replicate, List.getElem?_cons_zero, List.getElem?_cons_succ, List.getElem?_nil, List.set_cons_zero, List.set_cons_succ, Nat.reduceAdd, Nat.reduceSub, Nat.zero_add, if_true, if_false, Bool.false_eq_true, Bool.not_true, Bool.not_false, true_and, and_true, List.forall_mem_cons, List.mem_cons, List.not_mem_nil, or_false, forall_eq_or_imp, forall_eq, false_and, and_false, implies_true, false_or, Option.map_some, Option.map_none, ite_self, Bool.and_true, Bool.true_and, Bool.and_false, Bool.false_and, List.forall_mem_nil, decide_true, decide_false, isNonD, signsD]
      refine h _ (isName_of (by omega) ?_ h2)
      rw [h1, range_len]
      omega


/-- flat data as the law draws it -/
def FlatD (d : D) : Prop := match d with
  | .non => True
  | .bl _ => True
  | .int _ => True
  | .str s => s.length ≤ 900
  | _ => False
def sp__law_badname : FD := fun rs Q _ => rs = [.sto] ∧ ∀ d, FlatD d → Q (.val d)
theorem mono__law_badname : MonoF sp__law_badname := fun rs Q Q' E E' hq he ⟨h1, h2⟩ => ⟨h1, fun s a => hq _ (h2 s a)⟩
theorem cut8 {s : Str} {n : Nat} {lo : Option Int} (h : s.length ≤ n) {hi : Option Int} : (cutS s lo hi).length ≤ n := Nat.le_trans (cutS_len _ _ _) h
theorem num_small {r : Int} (h0 : 0 ≤ r) (h1 : r < 10) : r.natAbs.log2 < 1920 ∧ (Str.ofString (toString r)).length ≤ 1 := by
  rcases (by omega : r = 0 ∨ r = 1 ∨ r = 2 ∨ r = 3 ∨ r = 4 ∨ r = 5 ∨ r = 6 ∨ r = 7 ∨ r = 8 ∨ r = 9) with rfl | rfl | rfl | rfl | rfl | rfl | rfl | rfl | rfl | rfl <;> decide +kernel
def BADS : Str := Str.ofString " !\"#$&'()*+,-./:;<=>?@ABCDEFGHIJKLMNOPQRSTUVWXYZ[\\]^_`{|}~\n"

theorem ok__law_badname (T : Tx K mg A) : FnOk P w K mg base (L2.CX P w) 5 A.a__law_badname A.f__law_badname ["store"] (spD K 1 sp__law_badname) := by
  refine fn_okD T.F__law_badname sc__law_badname (by decide) (fun cdv A0 outer s H E g hK hr cy => ?_)
  refine ⟨_, _, (dss_cons (ds_asg 1 (de_call cy (ok__law_name T) mono__law_name (hr.mono (by decide)) (by rfl) T.m__law_name T.F__law_name.kp T.b__law_name (da_cons (de_var 0) da_nil)) sc__law_badname.nd)
    (dss_cons (ds_asg 2 (de_call cy (ok__law_take T) mono__law_take (hr.mono (by decide)) (by rfl) T.m__law_take T.F__law_take.kp T.b__law_take (da_cons (de_var 0) (da_cons de_int da_nil))) sc__law_badname.nd)
    (dss_cons (ds_if (dt_eq cy (de_var 2) de_int) (dss_one (ds_ret (de_call cy (ok__law_pick T) mono__law_pick (hr.mono (by decide)) (by rfl) T.m__law_pick T.F__law_pick.kp T.b__law_pick (da_cons (de_var 0) (da_cons (de_lst (da_cons de_bl (da_cons de_bl (da_cons de_non (da_cons de_int (da_cons de_int (da_cons (de_neg cy de_int) (da_cons (de_pow cy de_int de_int) da_nil)))))))) da_nil))))) dss_nil)
    (dss_cons (ds_if (dt_eq cy (de_var 2) de_int) (dss_one (ds_ret de_str)) dss_nil)
    (dss_cons (ds_if (dt_eq cy (de_var 2) de_int) (dss_one (ds_ret (de_slice cy (de_add cy (de_var 1) de_str) do_none (do_some de_int)))) dss_nil)
    (dss_cons (ds_if (dt_eq cy (de_var 2) de_int) (dss_one (ds_ret (de_add cy (de_strf cy (by rfl) T.m_str (de_call cy (ok__law_take T) mono__law_take (hr.mono (by decide)) (by rfl) T.m__law_take T.F__law_take.kp T.b__law_take (da_cons (de_var 0) (da_cons de_int da_nil)))) (de_slice cy (de_var 1) (do_some de_int) do_none)))) dss_nil)
    (dss_cons (ds_if (dt_eq cy (de_var 2) de_int) (dss_one (ds_ret (de_add cy (de_slice cy (de_var 1) do_none (do_some de_int)) de_str))) dss_nil)
    (dss_cons (ds_if (dt_eq cy (de_var 2) de_int) (dss_one (ds_ret (de_slice cy (de_mul cy (de_var 1) de_int) do_none (do_some (de_add cy de_int (de_call cy (ok__law_take T) mono__law_take (hr.mono (by decide)) (by rfl) T.m__law_take T.F__law_take.kp T.b__law_take (da_cons (de_var 0) (da_cons de_int da_nil)))))))) dss_nil)
    (dss_cons (ds_asg 3 de_str sc__law_badname.nd)
    (dss_cons (ds_asg 4 (de_call cy (ok__law_pick T) mono__law_pick (hr.mono (by decide)) (by rfl) T.m__law_pick T.F__law_pick.kp T.b__law_pick (da_cons (de_var 0) (da_cons (de_var 3) da_nil))) sc__law_badname.nd)
    (dss_cons (ds_asg 5 (de_call cy (ok__law_take T) mono__law_take (hr.mono (by decide)) (by rfl) T.m__law_take T.F__law_take.kp T.b__law_take (da_cons (de_var 0) (da_cons (de_len cy (by rfl) T.m_len (de_var 1)) da_nil))) sc__law_badname.nd)
    (dss_cons (ds_if (dt_eq cy (de_var 2) de_int) (dss_one (ds_ret (de_slice cy (de_add cy (de_add cy (de_slice cy (de_var 1) do_none (do_some (de_var 5))) (de_var 4)) (de_slice cy (de_var 1) (do_some (de_var 5)) do_none)) do_none (do_some de_int)))) dss_nil)
    (dss_one (ds_ret (de_add cy (de_add cy (de_slice cy (de_var 1) do_none (do_some (de_var 5))) (de_var 4)) (de_slice cy (de_var 1) (do_some (de_add cy (de_var 5) de_int)) do_none)))))))))))))))), fun rs Q Ex hl h => ?_⟩
  obtain ⟨rfl, h⟩ := h
  simp -dsimp only [↓W_var, ↓W_var1, ↓W_var2, ↓W_var3, ↓W_c, ↓W_frz, ↓W_frz1, ↓W_frz2, ↓W_frz3, ↓W_frz4, ↓W_op, ↓W_call, ↓W_fn, ↓W_fn0, ↓W_fnK, ↓W_nil, ↓W_cons, ↓W_add1, ↓W_add2, ↓W_add3, ↓W_add4, ↓W_add5, ↓W_add6, ↓W_add7, ↓W_int, ↓W_int0, ↓W_mul1, ↓W_mul2, ↓W_eq1, ↓W_eq2, ↓W_eq3, ↓W_eq4, ↓W_ne1, ↓W_ne2, ↓W_ne3, ↓W_in1, ↓W_in2, ↓W_in3, ↓W_in4, ↓W_in5, ↓W_is1, ↓W_is2, ↓W_at, ↓W_atS, ↓W_ix1, ↓W_ix2, ↓W_ix3, ↓W_ix4, ↓W_sl, ↓W_on, ↓W_os, ↓W_part, ↓W_sl1, ↓W_sl2, ↓W_sl3, ↓W_sl4, ↓W_len1, ↓W_len2, ↓W_len3, ↓W_len4, ↓W_abs, ↓W_intf, ↓W_strf, ↓W_list1, ↓W_list2, ↓W_list3, ↓W_tup1, ↓W_tup2, ↓W_tup3, ↓W_max, ↓W_min, ↓W_allK, ↓W_all1, ↓W_isi1, ↓W_isi2, ↓W_k_ns, ↓W_k_bs, ↓W_k_is, ↓W_k_ss, ↓W_k_ts, ↓W_k_ls, ↓W_k_nb, ↓W_k_bb, ↓W_k_ib, ↓W_k_sb, ↓W_k_tb, ↓W_k_lb, ↓W_k_ni, ↓W_k_bi, ↓W_k_ii, ↓W_k_si, ↓W_k_ti, ↓W_k_li, ↓W_k_nt, ↓W_k_bt, ↓W_k_it, ↓W_k_st, ↓W_k_tt, ↓W_k_lt, ↓W_k_nl, ↓W_k_bl, ↓W_k_il, ↓W_k_sl, ↓W_k_tl, ↓W_k_ll, ↓W_valsK, ↓W_etup, ↓W_elst, ↓W_vals0, ↓W_vals1, ↓W_bool, ↓W_bool1, ↓W_tand, ↓W_tor, ↓W_tnot, ↓W_tru, ↓W_tru1, ↓W_tru2, ↓W_tru3, ↓W_tru4, ↓W_tru5, ↓W_tru6, ↓W_tru7, ↓W_bo, ↓W_eand, ↓W_eor, ↓W_enot, ↓W_ink, ↓W_eneg, ↓W_snil, ↓W_seq, ↓W_asg, ↓W_asg1, ↓W_asg2, ↓W_asg3, ↓W_ret, ↓W_hand1, ↓W_hand2, ↓W_hand3, ↓W_hand4, ↓W_expr, ↓W_if, ↓W_for, ↓W_any, ↓W_it1, ↓W_it2, ↓W_it3, ↓W_rg1, ↓W_lc, ↓W_bn, ↓W_yes, ↓W_ownK, ↓W_mut, ↓W_app, ↓W_ins, ↓W_setK, ↓W_stK, ↓W_setIx, ↓W_strK, ↓W_upper, ↓W_join1, ↓W_start, ↓W_slot1, ↓W_slot2, ↓W_arg1, ↓W_arg2, ↓W_sFrz, ↓W_strb, endsD, wipeE, List.foldr_cons, List.foldr_nil, List.length_cons, List.length_nil, List.map_cons, List.map_nil, List.cons_append, List.nil_append, List.append_nil, List.replicate, List.getElem?_cons_zero, List.getElem?_cons_succ, List.getElem?_nil, List.set_cons_zero, List.set_cons_succ, Nat.reduceAdd, Nat.reduceSub, Nat.zero_add, if_true, if_false, Bool.false_eq_true, Bool.not_true, Bool.not_false, true_and, and_true, List.forall_mem_cons, List.mem_cons, List.not_mem_nil, or_false, forall_eq_or_imp, forall_eq, false_and, and_false, implies_true, false_or, Option.map_some, Option.map_none, ite_self, Bool.and_true, Bool.true_and, Bool.and_false, Bool.false_and, List.forall_mem_nil, decide_true, decide_false, isNonD, signsD]
  refine ⟨rfl, fun wd hw => ?_⟩
  have ⟨w0, w1⟩ := name_len hw
  simp -dsimp only [↓W_var, ↓W_var1, ↓W_var2, ↓W_var3, ↓W_c, ↓W_frz, ↓W_frz1, ↓W_frz2, ↓W_frz3, ↓W_frz4, ↓W_op, ↓W_call, ↓W_fn, ↓W_fn0, ↓W_fnK, ↓W_nil, ↓W_cons, ↓W_add1, ↓W_add2, ↓W_add3, ↓W_add4, ↓W_add5, ↓W_add6, ↓W_add7, ↓W_int, ↓W_int0, ↓W_mul1, ↓W_mul2, ↓W_eq1, ↓W_eq2, ↓W_eq3, ↓W_eq4, ↓W_ne1, ↓W_ne2, ↓W_ne3, ↓W_in1, ↓W_in2, ↓W_in3, ↓W_in4, ↓W_in5, ↓W_is1, ↓W_is2, ↓W_at, ↓W_atS, ↓W_ix1, ↓W_ix2, ↓W_ix3, ↓W_ix4, ↓W_sl, ↓W_on, ↓W_os, ↓W_part, ↓W_sl1, ↓W_sl2, ↓W_sl3, ↓W_sl4, ↓W_len1, ↓W_len2, ↓W_len3, ↓W_len4, ↓W_abs, ↓W_intf, ↓W_strf, ↓W_list1, ↓W_list2, ↓W_list3, ↓W_tup1, ↓W_tup2, ↓W_tup3, ↓W_max, ↓W_min, ↓W_allK, ↓W_all1, ↓W_isi1, ↓W_isi2, ↓W_k_ns, ↓W_k_bs, ↓W_k_is, ↓W_k_ss, ↓W_k_ts, ↓W_k_ls, ↓W_k_nb, ↓W_k_bb, ↓W_k_ib, ↓W_k_sb, ↓W_k_tb, ↓W_k_lb, ↓W_k_ni, ↓W_k_bi, ↓W_k_ii, ↓W_k_si, ↓W_k_ti, ↓W_k_li, ↓W_k_nt, ↓W_k_bt, ↓W_k_it, ↓W_k_st, ↓W_k_tt, ↓W_k_lt, ↓W_k_nl, ↓W_k_bl, ↓W_k_il, ↓W_k_sl, ↓W_k_tl, ↓W_k_ll, ↓W_valsK, ↓W_etup, ↓W_elst, ↓W_vals0, ↓W_vals1, ↓W_bool, ↓W_bool1, ↓W_tand, ↓W_tor, ↓W_tnot, ↓W_tru, ↓W_tru1, ↓W_tru2, ↓W_tru3, ↓W_tru4, ↓W_tru5, ↓W_tru6, ↓W_tru7, ↓W_bo, ↓W_eand, ↓W_eor, ↓W_enot, ↓W_ink, ↓W_eneg, ↓W_snil, ↓W_seq, ↓W_asg, ↓W_asg1, ↓W_asg2, ↓W_asg3, ↓W_ret, ↓W_hand1, ↓W_hand2, ↓W_hand3, ↓W_hand4, ↓W_expr, ↓W_if, ↓W_for, ↓W_any, ↓W_it1, ↓W_it2, ↓W_it3, ↓W_rg1, ↓W_lc, ↓W_bn, ↓W_yes, ↓W_ownK, ↓W_mut, ↓W_app, ↓W_ins, ↓W_setK, ↓W_stK, ↓W_setIx, ↓W_strK, ↓W_upper, ↓W_join1, ↓W_start, ↓W_slot1, ↓W_slot2, ↓W_arg1, ↓W_arg2, ↓W_sFrz, ↓W_strb, endsD, wipeE, List.foldr_cons, List.foldr_nil, List.length_cons, List.length_nil, List.map_cons, List.map_nil, List.cons_append, List.nil_append, List.append_nil, List.replicate, List.getElem?_cons_zero, List.getElem?_cons_succ, List.getElem?_nil, List.set_cons_zero, List.set_cons_succ, Nat.reduceAdd, Nat.reduceSub, Nat.zero_add, if_true, if_false, Bool.false_eq_true, Bool.not_true, Bool.not_false, true_and, and_true, List.forall_mem_cons, List.mem_cons, List.not_mem_nil, or_false, forall_eq_or_imp, forall_eq, false_and, and_false, implies_true, false_or, Option.map_some, Option.map_none, ite_self, Bool.and_true, Bool.true_and, Bool.and_false, Bool.false_and, List.forall_mem_nil, decide_true, decide_false, isNonD, signsD]
  refine take_of (by decide) fun r r0 _ r1 => ?_
  simp -dsimp only [↓W_var, ↓W_var1, ↓W_var2, ↓W_var3, ↓W_c, ↓W_frz, ↓W_frz1, ↓W_frz2, ↓W_frz3, ↓W_frz4, ↓W_op, ↓W_call, ↓W_fn, ↓W_fn0, ↓W_fnK, ↓W_nil, ↓W_cons, ↓W_add1, ↓W_add2, ↓W_add3, ↓W_add4, ↓W_add5, ↓W_add6, ↓W_add7, ↓W_int, ↓W_int0, ↓W_mul1, ↓W_mul2, ↓W_eq1, ↓W_eq2, ↓W_eq3, ↓W_eq4, ↓W_ne1, ↓W_ne2, ↓W_ne3, ↓W_in1, ↓W_in2, ↓W_in3, ↓W_in4, ↓W_in5, ↓W_is1, ↓W_is2, ↓W_at, ↓W_atS, ↓W_ix1, ↓W_ix2, ↓W_ix3, ↓W_ix4, ↓W_sl, ↓W_on, ↓W_os, ↓W_part, ↓W_sl1, ↓W_sl2, ↓W_sl3, ↓W_sl4, ↓W_len1, ↓W_len2, ↓W_len3, ↓W_len4, ↓W_abs, ↓W_intf, ↓W_strf, ↓W_list1, ↓W_list2, ↓W_list3, ↓W_tup1, ↓W_tup2, ↓W_tup3, ↓W_max, ↓W_min, ↓W_allK, ↓W_all1, ↓W_isi1, ↓W_isi2, ↓W_k_ns, ↓W_k_bs, ↓W_k_is, ↓W_k_ss, ↓W_k_ts, ↓W_k_ls, ↓W_k_nb, ↓W_k_bb, ↓W_k_ib, ↓W_k_sb, ↓W_k_tb, ↓W_k_lb, ↓W_k_ni, ↓W_k_bi, ↓W_k_ii, ↓W_k_si, ↓W_k_ti, ↓W_k_li, ↓W_k_nt, ↓W_k_bt, ↓W_k_it, ↓W_k_st, ↓W_k_tt, ↓W_k_lt, ↓W_k_nl, ↓W_k_bl, ↓W_k_il, ↓W_k_sl, ↓W_k_tl, ↓W_k_ll, ↓W_valsK, ↓W_etup, ↓W_elst, ↓W_vals0, ↓W_vals1, ↓W_bool, ↓W_bool1, ↓W_tand, ↓W_tor, ↓W_tnot, ↓W_tru, ↓W_tru1, ↓W_tru2, ↓W_tru3, ↓W_tru4, ↓W_tru5, ↓W_tru6, ↓W_tru7, ↓W_bo, ↓W_eand, ↓W_eor, ↓W_enot, ↓W_ink, ↓W_eneg, ↓W_snil, ↓W_seq, ↓W_asg, ↓W_asg1, ↓W_asg2, ↓W_asg3, ↓W_ret, ↓W_hand1, ↓W_hand2, ↓W_hand3, ↓W_hand4, ↓W_expr, ↓W_if, ↓W_for, ↓W_any, ↓W_it1, ↓W_it2, ↓W_it3, ↓W_rg1, ↓W_lc, ↓W_bn, ↓W_yes, ↓W_ownK, ↓W_mut, ↓W_app, ↓W_ins, ↓W_setK, ↓W_stK, ↓W_setIx, ↓W_strK, ↓W_upper, ↓W_join1, ↓W_start, ↓W_slot1, ↓W_slot2, ↓W_arg1, ↓W_arg2, ↓W_sFrz, ↓W_strb, endsD, wipeE, List.foldr_cons, List.foldr_nil, List.length_cons, List.length_nil, List.map_cons, List.map_nil, List.cons_append, List.nil_append, List.append_nil, List.replicate, List.getElem?_cons_zero, List.getElem?_cons_succ, List.getElem?_nil, List.set_cons_zero, List.set_cons_succ, Nat.reduceAdd, Nat.reduceSub, Nat.zero_add, if_true, if_false, Bool.false_eq_true, Bool.not_true, Bool.not_false, true_and, and_true, List.forall_mem_cons, List.mem_cons, List.not_mem_nil, or_false, forall_eq_or_imp, forall_eq, false_and, and_false, implies_true, false_or, Option.map_some, Option.map_none, ite_self, Bool.and_true, Bool.true_and, Bool.and_false, Bool.false_and, List.forall_mem_nil, decide_true, decide_false, isNonD, signsD]
  refine iteB (fun _ => ?_) (fun _ => ?_)
  · refine ⟨⟨by decide, by decide, by decide⟩, by decide, pick_lst (by simp) (by simp) fun d hd => ?_⟩
    simp -dsimp only [↓W_var, ↓W_var1, ↓W_var2, ↓W_var3, ↓W_c, ↓W_frz, ↓W_frz1, ↓W_frz2, ↓W_frz3, ↓W_frz4, ↓W_op, ↓W_call, ↓W_fn, ↓W_fn0, ↓W_fnK, ↓W_nil, ↓W_cons, ↓W_add1, ↓W_add2, ↓W_add3, ↓W_add4, ↓W_add5, ↓W_add6, ↓W_add7, ↓W_int, ↓W_int0, ↓W_mul1, ↓W_mul2, ↓W_eq1, ↓W_eq2, ↓W_eq3, ↓W_eq4, ↓W_ne1, ↓W_ne2, ↓W_ne3, ↓W_in1, ↓W_in2, ↓W_in3, ↓W_in4, ↓W_in5, ↓W_is1, ↓W_is2, ↓W_at, ↓W_atS, ↓W_ix1, ↓W_ix2, ↓W_ix3, ↓W_ix4, ↓W_sl, ↓W_on, ↓W_os, ↓W_part, ↓W_sl1, ↓W_sl2, ↓W_sl3, ↓W_sl4, ↓W_len1, ↓W_len2, ↓W_len3, ↓W_len4, ↓W_abs, ↓W_intf, ↓W_strf, ↓W_list1, ↓W_list2, ↓W_list3, ↓W_tup1, ↓W_tup2, ↓W_tup3, ↓W_max, ↓W_min, ↓W_allK, ↓W_all1, ↓W_isi1, ↓W_isi2, ↓W_k_ns, ↓W_k_bs, ↓W_k_is, ↓W_k_ss, ↓W_k_ts, ↓W_k_ls, ↓W_k_nb, ↓W_k_bb, ↓W_k_ib, ↓W_k_sb, ↓W_k_tb, ↓W_k_lb, ↓W_k_ni, ↓W_k_bi, ↓W_k_ii, ↓W_k_si, ↓W_k_ti, ↓W_k_li, ↓W_k_nt, ↓W_k_bt, ↓W_k_it, ↓W_k_st, ↓W_k_tt, ↓W_k_lt, ↓W_k_nl, ↓W_k_bl, ↓W_k_il, ↓W_k_sl, ↓W_k_tl, ↓W_k_ll, ↓W_valsK, ↓W_etup, ↓W_elst, ↓W_vals0, ↓W_vals1, ↓W_bool, ↓W_bool1, ↓W_tand, ↓W_tor, ↓W_tnot, ↓W_tru, ↓W_tru1, ↓W_tru2, ↓W_tru3, ↓W_tru4, ↓W_tru5, ↓W_tru6, ↓W_tru7, ↓W_bo, ↓W_eand, ↓W_eor, ↓W_enot, ↓W_ink, ↓W_eneg, ↓W_snil, ↓W_seq, ↓W_asg, ↓W_asg1, ↓W_asg2, ↓W_asg3, ↓W_ret, ↓W_hand1, ↓W_hand2, ↓W_hand3, ↓W_hand4, ↓W_expr, ↓W_if, ↓W_for, ↓W_any, ↓W_it1, ↓W_it2, ↓W_it3, ↓W_rg1, ↓W_lc, ↓W_bn, ↓W_yes, ↓W_ownK, ↓W_mut, ↓W_app, ↓W_ins, ↓W_setK, ↓W_stK, ↓W_setIx, ↓W_strK, ↓W_upper, ↓W_join1, ↓W_start, ↓W_slot1, ↓W_slot2, ↓W_arg1, ↓W_arg2, ↓W_sFrz, ↓W_strb, endsD, wipeE, List.foldr_cons, List.foldr_nil, List.length_cons, List.length_nil, List.map_cons, List.map_nil, List.cons_append, List.nil_append, List.append_nil, List.replicate, List.getElem?_cons_zero, List.getElem?_cons_succ, List.getElem?_nil, List.set_cons_zero, List.set_cons_succ, Nat.reduceAdd, Nat.reduceSub, Nat.zero_add, if_true, if_false, Bool.false_eq_true, Bool.not_true, Bool.not_false, true_and, and_true, List.forall_mem_cons, List.mem_cons, List.not_mem_nil, or_false, forall_eq_or_imp, forall_eq, false_and, and_false, implies_true, false_or, Option.map_some, Option.map_none, ite_self, Bool.and_true, Bool.true_and, Bool.and_false, Bool.false_and, List.forall_mem_nil, decide_true, decide_false, isNonD, signsD]
    refine h _ ?_
    simp only [List.mem_cons, List.not_mem_nil, or_false] at hd
    rcases hd with rfl | rfl | rfl | rfl | rfl | rfl | rfl <;> exact trivial
  refine iteB (fun _ => ?_) (fun _ => ?_)
  · exact h _ (by show _ ≤ _; decide)
  refine iteB (fun _ => ?_) (fun _ => ?_)
  · rw [len_add]
    exact ⟨lim_of (by show wd.length + 8 ≤ _; omega), lim_of (by show wd.length + 8 ≤ _; omega), h _ (by show _ ≤ _; refine cut8 ?_; rw [len_add]; show wd.length + 8 ≤ _; omega)⟩
  refine iteB (fun _ => ?_) (fun _ => ?_)
  · refine take_of (by decide) fun z z0 _ z1 => ?_
    have z2 := z1 (by decide)
    simp -dsimp only [↓W_var, ↓W_var1, ↓W_var2, ↓W_var3, ↓W_c, ↓W_frz, ↓W_frz1, ↓W_frz2, ↓W_frz3, ↓W_frz4, ↓W_op, ↓W_call, ↓W_fn, ↓W_fn0, ↓W_fnK, ↓W_nil, ↓W_cons, ↓W_add1, ↓W_add2, ↓W_add3, ↓W_add4, ↓W_add5, ↓W_add6, ↓W_add7, ↓W_int, ↓W_int0, ↓W_mul1, ↓W_mul2, ↓W_eq1, ↓W_eq2, ↓W_eq3, ↓W_eq4, ↓W_ne1, ↓W_ne2, ↓W_ne3, ↓W_in1, ↓W_in2, ↓W_in3, ↓W_in4, ↓W_in5, ↓W_is1, ↓W_is2, ↓W_at, ↓W_atS, ↓W_ix1, ↓W_ix2, ↓W_ix3, ↓W_ix4, ↓W_sl, ↓W_on, ↓W_os, ↓W_part, ↓W_sl1, ↓W_sl2, ↓W_sl3, ↓W_sl4, ↓W_len1, ↓W_len2, ↓W_len3, ↓W_len4, ↓W_abs, ↓W_intf, ↓W_strf, ↓W_list1, ↓W_list2, ↓W_list3, ↓W_tup1, ↓W_tup2, ↓W_tup3, ↓W_max, ↓W_min, ↓W_allK, ↓W_all1, ↓W_isi1, ↓W_isi2, ↓W_k_ns, ↓W_k_bs, ↓W_k_is, ↓W_k_ss, ↓W_k_ts, ↓W_k_ls, ↓W_k_nb, ↓W_k_bb, ↓W_k_ib, ↓W_k_sb, ↓W_k_tb, ↓W_k_lb, ↓W_k_ni, ↓W_k_bi, ↓W_k_ii, ↓W_k_si, ↓W_k_ti, ↓W_k_li, ↓W_k_nt, ↓W_k_bt, ↓W_k_it, ↓W_k_st, ↓W_k_tt, ↓W_k_lt, ↓W_k_nl, ↓W_k_bl, ↓W_k_il, ↓W_k_sl, ↓W_k_tl, ↓W_k_ll, ↓W_valsK, ↓W_etup, ↓W_elst, ↓W_vals0, ↓W_vals1, ↓W_bool, ↓W_bool1, ↓W_tand, ↓W_tor, ↓W_tnot, ↓W_tru, ↓W_tru1, ↓W_tru2, ↓W_tru3, ↓W_tru4, ↓W_tru5, ↓W_tru6, ↓W_tru7, ↓W_bo, ↓W_eand, ↓W_eor, ↓W_enot, ↓W_ink, ↓W_eneg, ↓W_snil, ↓W_seq, ↓W_asg, ↓W_asg1, ↓W_asg2, ↓W_asg3, ↓W_ret, ↓W_hand1, ↓W_hand2, ↓W_hand3, ↓W_hand4, ↓W_expr, ↓W_if, ↓W_for, ↓W_any, ↓W_it1, ↓W_it2, ↓W_it3, ↓W_rg1, ↓W_lc, ↓W_bn, ↓W_yes, ↓W_ownK, ↓W_mut, ↓W_app, ↓W_ins, ↓W_setK, ↓W_stK, ↓W_setIx, ↓W_strK, ↓W_upper, ↓W_join1, ↓W_start, ↓W_slot1, ↓W_slot2, ↓W_arg1, ↓W_arg2, ↓W_sFrz, ↓W_strb, endsD, wipeE, List.foldr_cons, List.foldr_nil, List.length_cons, List.length_nil, List.map_cons, List.map_nil, List.cons_append, List.nil_append, List.append_nil, List.replicate, List.getElem?_cons_zero, List.getElem?_cons_succ, List.getElem?_nil, List.set_cons_zero, List.set_cons_succ, Nat.reduceAdd, Nat.reduceSub, Nat.zero_add, if_true, if_false, Bool.false_eq_true, Bool.not_true, Bool.not_false, true_and, and_true, List.forall_mem_cons, List.mem_cons, List.not_mem_nil, or_false, forall_eq_or_imp, forall_eq, false_and, and_false, implies_true, false_or, Option.map_some, Option.map_none, ite_self, Bool.and_true, Bool.true_and, Bool.and_false, Bool.false_and, List.forall_mem_nil, decide_true, decide_false, isNonD, signsD]
    obtain ⟨n1, n2⟩ := num_small z0 z2
    have c1 : (cutS wd (some 1) none).length ≤ 8 := cut8 w1
    refine ⟨n1, lim_of (by omega), lim_of (by omega), h _ (by show _ ≤ _; rw [len_add]; omega)⟩
  refine iteB (fun _ => ?_) (fun _ => ?_)
  · have c1 : (cutS wd none (some 7)).length ≤ 8 := cut8 w1
    have c2 : (Str.ofString "\n").length = 1 := by decide
    refine ⟨lim_of (by omega), lim_of (by omega), h _ (by show _ ≤ _; rw [len_add]; omega)⟩
  refine iteB (fun _ => ?_) (fun _ => ?_)
  · refine ⟨⟨by decide, by decide, by show wd.length * 40 ≤ _; omega⟩, ?_⟩
    refine take_of (by decide) fun z z0 _ z1 => ?_
    simp -dsimp only [↓W_var, ↓W_var1, ↓W_var2, ↓W_var3, ↓W_c, ↓W_frz, ↓W_frz1, ↓W_frz2, ↓W_frz3, ↓W_frz4, ↓W_op, ↓W_call, ↓W_fn, ↓W_fn0, ↓W_fnK, ↓W_nil, ↓W_cons, ↓W_add1, ↓W_add2, ↓W_add3, ↓W_add4, ↓W_add5, ↓W_add6, ↓W_add7, ↓W_int, ↓W_int0, ↓W_mul1, ↓W_mul2, ↓W_eq1, ↓W_eq2, ↓W_eq3, ↓W_eq4, ↓W_ne1, ↓W_ne2, ↓W_ne3, ↓W_in1, ↓W_in2, ↓W_in3, ↓W_in4, ↓W_in5, ↓W_is1, ↓W_is2, ↓W_at, ↓W_atS, ↓W_ix1, ↓W_ix2, ↓W_ix3, ↓W_ix4, ↓W_sl, ↓W_on, ↓W_os, ↓W_part, ↓W_sl1, ↓W_sl2, ↓W_sl3, ↓W_sl4, ↓W_len1, ↓W_len2, ↓W_len3, ↓W_len4, ↓W_abs, ↓W_intf, ↓W_strf, ↓W_list1, ↓W_list2, ↓W_list3, ↓W_tup1, ↓W_tup2, ↓W_tup3, ↓W_max, ↓W_min, ↓W_allK, ↓W_all1, ↓W_isi1, ↓W_isi2, ↓W_k_ns, ↓W_k_bs, ↓W_k_is, ↓W_k_ss, ↓W_k_ts, ↓W_k_ls, ↓W_k_nb, ↓W_k_bb, ↓W_k_ib, ↓W_k_sb, ↓W_k_tb, ↓W_k_lb, ↓W_k_ni, ↓W_k_bi, ↓W_k_ii, ↓W_k_si, ↓W_k_ti, ↓W_k_li, ↓W_k_nt, ↓W_k_bt, ↓W_k_it, ↓W_k_st, ↓W_k_tt, ↓W_k_lt, ↓W_k_nl, ↓W_k_bl, ↓W_k_il, ↓W_k_sl, ↓W_k_tl, ↓W_k_ll, ↓W_valsK, ↓W_etup, ↓W_elst, ↓W_vals0, ↓W_vals1, ↓W_bool, ↓W_bool1, ↓W_tand, ↓W_tor, ↓W_tnot, ↓W_tru, ↓W_tru1, ↓W_tru2, ↓W_tru3, ↓W_tru4, ↓W_tru5, ↓W_tru6, ↓W_tru7, ↓W_bo, ↓W_eand, ↓W_eor, ↓W_enot, ↓W_ink, ↓W_eneg, ↓W_snil, ↓W_seq, ↓W_asg, ↓W_asg1, ↓W_asg2, ↓W_asg3, ↓W_ret, ↓W_hand1, ↓W_hand2, ↓W_hand3, ↓W_hand4, ↓W_expr, ↓W_if, ↓W_for, ↓W_any, ↓W_it1, ↓W_it2, ↓W_it3, ↓W_rg1, ↓W_lc, ↓W_bn, ↓W_yes, ↓W_ownK, ↓W_mut, ↓W_app, ↓W_ins, ↓W_setK, ↓W_stK, ↓W_setIx, ↓W_strK, ↓W_upper, ↓W_join1, ↓W_start, ↓W_slot1, ↓W_slot2, ↓W_arg1, ↓W_arg2, ↓W_sFrz, ↓W_strb, endsD, wipeE, List.foldr_cons, List.foldr_nil, List.length_cons, List.length_nil, List.map_cons, List.map_nil, List.cons_append, List.nil_append, List.append_nil, List.replicate, List.getElem?_cons_zero, List.getElem?_cons_succ, List.getElem?_nil, List.set_cons_zero, List.set_cons_succ, Nat.reduceAdd, Nat.reduceSub, Nat.zero_add, if_true, if_false, Bool.false_eq_true, Bool.not_true, Bool.not_false, true_and, and_true, List.forall_mem_cons, List.mem_cons, List.not_mem_nil, or_false, forall_eq_or_imp, forall_eq, false_and, and_false, implies_true, false_or, Option.map_some, Option.map_none, ite_self, Bool.and_true, Bool.true_and, Bool.and_false, Bool.false_and, List.forall_mem_nil, decide_true, decide_false, isNonD, signsD]
    have e : (repS wd (Int.toNat 40)).length ≤ 320 := by rw [repS_length]; show 40 * wd.length ≤ 320; omega
    exact ⟨lim_of (by omega), h _ (by show _ ≤ _; exact cut8 (by omega))⟩
  refine pick_str (s := BADS) (by decide +kernel) (by decide +kernel) fun c2 hc2 => ?_
  simp -dsimp only [↓W_var, ↓W_var1, ↓W_var2, ↓W_var3, ↓W_c, ↓W_frz, ↓W_frz1, ↓W_frz2, ↓W_frz3, ↓W_frz4, ↓W_op, ↓W_call, ↓W_fn, ↓W_fn0, ↓W_fnK, ↓W_nil, ↓W_cons, ↓W_add1, ↓W_add2, ↓W_add3, ↓W_add4, ↓W_add5, ↓W_add6, ↓W_add7, ↓W_int, ↓W_int0, ↓W_mul1, ↓W_mul2, ↓W_eq1, ↓W_eq2, ↓W_eq3, ↓W_eq4, ↓W_ne1, ↓W_ne2, ↓W_ne3, ↓W_in1, ↓W_in2, ↓W_in3, ↓W_in4, ↓W_in5, ↓W_is1, ↓W_is2, ↓W_at, ↓W_atS, ↓W_ix1, ↓W_ix2, ↓W_ix3, ↓W_ix4, ↓W_sl, ↓W_on, ↓W_os, ↓W_part, ↓W_sl1, ↓W_sl2, ↓W_sl3, ↓W_sl4, ↓W_len1, ↓W_len2, ↓W_len3, ↓W_len4, ↓W_abs, ↓W_intf, ↓W_strf, ↓W_list1, ↓W_list2, ↓W_list3, ↓W_tup1, ↓W_tup2, ↓W_tup3, ↓W_max, ↓W_min, ↓W_allK, ↓W_all1, ↓W_isi1, ↓W_isi2, ↓W_k_ns, ↓W_k_bs, ↓W_k_is, ↓W_k_ss, ↓W_k_ts, ↓W_k_ls, ↓W_k_nb, ↓W_k_bb, ↓W_k_ib, ↓W_k_sb, ↓W_k_tb, ↓W_k_lb, ↓W_k_ni, ↓W_k_bi, ↓W_k_ii, ↓W_k_si, ↓W_k_ti, ↓W_k_li, ↓W_k_nt, ↓W_k_bt, ↓W_k_it, ↓W_k_st, ↓W_k_tt, ↓W_k_lt, ↓W_k_nl, ↓W_k_bl, ↓W_k_il, ↓W_k_sl, ↓W_k_tl, ↓W_k_ll, ↓W_valsK, ↓W_etup, ↓W_elst, ↓W_vals0, ↓W_vals1, ↓W_bool, ↓W_bool1, ↓W_tand, ↓W_tor, ↓W_tnot, ↓W_tru, ↓W_tru1, ↓W_tru2, ↓W_tru3, ↓W_tru4, ↓W_tru5, ↓W_tru6, ↓W_tru7, ↓W_bo, ↓W_eand, ↓W_eor, ↓W_enot, ↓W_ink, ↓W_eneg, ↓W_snil, ↓W_seq, ↓W_asg, ↓W_asg1, ↓W_asg2, ↓W_asg3, ↓W_ret, ↓W_hand1, ↓W_hand2, ↓W_hand3, ↓W_hand4, ↓W_expr, ↓W_if, ↓W_for, ↓W_any, ↓W_it1, ↓W_it2, ↓W_it3, ↓W_rg1, ↓W_lc, ↓W_bn, ↓W_yes, ↓W_ownK, ↓W_mut, ↓W_app, ↓W_ins, ↓W_setK, ↓W_stK, ↓W_setIx, ↓W_strK, ↓W_upper, ↓W_join1, ↓W_start, ↓W_slot1, ↓W_slot2, ↓W_arg1, ↓W_arg2, ↓W_sFrz, ↓W_strb, endsD, wipeE, List.foldr_cons, List.foldr_nil, List.length_cons, List.length_nil, List.map_cons, List.map_nil, List.cons_append, List.nil_append, List.append_nil, List.replicate, List.getElem?_cons_zero, List.getElem?_cons_succ, List.getElem?_nil, List.set_cons_zero, List.set_cons_succ, Nat.reduceAdd, Nat.reduceSub, Nat.zero_add, if_true, if_false, Bool.false_eq_true, Bool.not_true, Bool.not_false, true_and, and_true, List.forall_mem_cons, List.mem_cons, List.not_mem_nil, or_false, forall_eq_or_imp, forall_eq, false_and, and_false, implies_true, false_or, Option.map_some, Option.map_none, ite_self, Bool.and_true, Bool.true_and, Bool.and_false, Bool.false_and, List.forall_mem_nil, decide_true, decide_false, isNonD, signsD]
  refine ⟨lim_of (by omega), take_of (by omega) fun z z0 _ z1 => ?_⟩
  simp -dsimp only [↓W_var, ↓W_var1, ↓W_var2, ↓W_var3, ↓W_c, ↓W_frz, ↓W_frz1, ↓W_frz2, ↓W_frz3, ↓W_frz4, ↓W_op, ↓W_call, ↓W_fn, ↓W_fn0, ↓W_fnK, ↓W_nil, ↓W_cons, ↓W_add1, ↓W_add2, ↓W_add3, ↓W_add4, ↓W_add5, ↓W_add6, ↓W_add7, ↓W_int, ↓W_int0, ↓W_mul1, ↓W_mul2, ↓W_eq1, ↓W_eq2, ↓W_eq3, ↓W_eq4, ↓W_ne1, ↓W_ne2, ↓W_ne3, ↓W_in1, ↓W_in2, ↓W_in3, ↓W_in4, ↓W_in5, ↓W_is1, ↓W_is2, ↓W_at, ↓W_atS, ↓W_ix1, ↓W_ix2, ↓W_ix3, ↓W_ix4, ↓W_sl, ↓W_on, ↓W_os, ↓W_part, ↓W_sl1, ↓W_sl2, ↓W_sl3, ↓W_sl4, ↓W_len1, ↓W_len2, ↓W_len3, ↓W_len4, ↓W_abs, ↓W_intf, ↓W_strf, ↓W_list1, ↓W_list2, ↓W_list3, ↓W_tup1, ↓W_tup2, ↓W_tup3, ↓W_max, ↓W_min, ↓W_allK, ↓W_all1, ↓W_isi1, ↓W_isi2, ↓W_k_ns, ↓W_k_bs, ↓W_k_is, ↓W_k_ss, ↓W_k_ts, ↓W_k_ls, ↓W_k_nb, ↓W_k_bb, ↓W_k_ib, ↓W_k_sb, ↓W_k_tb, ↓W_k_lb, ↓W_k_ni, ↓W_k_bi, ↓W_k_ii, ↓W_k_si, ↓W_k_ti, ↓W_k_li, ↓W_k_nt, ↓W_k_bt, ↓W_k_it, ↓W_k_st, ↓W_k_tt, ↓W_k_lt, ↓W_k_nl, ↓W_k_bl, ↓W_k_il, ↓W_k_sl, ↓W_k_tl, ↓W_k_ll, ↓W_valsK, ↓W_etup, ↓W_elst, ↓W_vals0, ↓W_vals1, ↓W_bool, ↓W_bool1, ↓W_tand, ↓W_tor, ↓W_tnot, ↓W_tru, ↓W_tru1, ↓W_tru2, ↓W_tru3, ↓W_tru4, ↓W_tru5, ↓W_tru6, ↓W_tru7, ↓W_bo, ↓W_eand, ↓W_eor, ↓W_enot, ↓W_ink, ↓W_eneg, ↓W_snil, ↓W_seq, ↓W_asg, ↓W_asg1, ↓W_asg2, ↓W_asg3, ↓W_ret, ↓W_hand1, ↓W_hand2, ↓W_hand3, ↓W_hand4, ↓W_expr, ↓W_if, ↓W_for, ↓W_any, ↓W_it1, ↓W_it2, ↓W_it3, ↓W_rg1, ↓W_lc, ↓W_bn, ↓W_yes, ↓W_ownK, ↓W_mut, ↓W_app, ↓W_ins, ↓W_setK, ↓W_stK, ↓W_setIx, ↓W_strK, ↓W_upper, ↓W_join1, ↓W_start, ↓W_slot1, ↓W_slot2, ↓W_arg1, ↓W_arg2, ↓W_sFrz, ↓W_strb, endsD, wipeE, List.foldr_cons, List.foldr_nil, List.length_cons, List.length_nil, List.map_cons, List.map_nil, List.cons_append, List.nil_append, List.append_nil, List.replicate, List.getElem?_cons_zero, List.getElem?_cons_succ, List.getElem?_nil, List.set_cons_zero, List.set_cons_succ, Nat.reduceAdd, Nat.reduceSub, Nat.zero_add, if_true, if_false, Bool.false_eq_true, Bool.not_true, Bool.not_false, true_and, and_true, List.forall_mem_cons, List.mem_cons, List.not_mem_nil, or_false, forall_eq_or_imp, forall_eq, false_and, and_false, implies_true, false_or, Option.map_some, Option.map_none, ite_self, Bool.and_true, Bool.true_and, Bool.and_false, Bool.false_and, List.forall_mem_nil, decide_true, decide_false, isNonD, signsD]
  refine iteB (fun _ => ?_) (fun _ => ?_)
  · have c1 : (cutS wd none (some z)).length ≤ 8 := cut8 w1
    have c2 : (cutS wd (some z) none).length ≤ 8 := cut8 w1
    simp only [len_add, one_len]
    refine ⟨lim_of (by omega), lim_of (by omega), lim_of (by omega), lim_of (by omega), lim_of (by omega), h _ (by show _ ≤ _; refine cut8 ?_; simp only [len_add, one_len]; omega)⟩
  · have c1 : (cutS wd none (some z)).length ≤ 8 := cut8 w1
    have c2 : (cutS wd (some (z + 1)) none).length ≤ 8 := cut8 w1
    simp only [len_add, one_len]
    refine ⟨lim_of (by omega), lim_of (by omega), lim_of (by omega), lim_of (by omega), h _ (by show _ ≤ _; simp only [len_add, one_len]; omega)⟩


/-- data that is_name may be asked -/
def AskD (d : D) : Prop := match d with
  | .non => True
  | .bl _ => True
  | .int _ => True
  | .str s => s.length ≤ 5000
  | .tup _ => True
  | .lst _ => True
  | _ => False
def sp_is_name : FD := fun rs Q _ => ∃ d, rs = [.val d] ∧ AskD d ∧ Q (.val (.bl (isNameD d)))
theorem mono_is_name : MonoF sp_is_name := fun rs Q Q' E E' hq he ⟨d, h1, h2, h3⟩ => ⟨d, h1, h2, hq _ h3⟩
theorem str_len0 {s : Str} (z : s.length = 0) : s = Str.ofString "" := by
  have e : s.cps.toList = [] := List.eq_nil_of_length_eq_zero (by rw [chars_len, z])
  exact str_of_list e
def sigB (d : D) : D := match d with
  | .str s => .bl (decide (s.cps.toList.headD 0 ∈ SIG.cps.toList))
  | _ => .non
theorem sig_map (l : List Nat) : [] ++ ((l.map fun c => D.str ⟨#[c]⟩).filter (fun _ => true)).map sigB = (l.map fun c => decide (c ∈ SIG.cps.toList)).map D.bl := by
  rw [List.nil_append, List.filter_eq_self.mpr (fun _ _ => rfl), List.map_map, List.map_map]
  rfl
theorem isn_first {s : Str} (h : firstIn s.cps.toList = true) : ∃ c l, s.cps.toList = c :: l ∧ c ∈ LET.cps.toList := by
  cases e : s.cps.toList with
  | nil => rw [e] at h; exact absurd h (by simp [firstIn])
  | cons a l => rw [e] at h; exact ⟨a, l, rfl, of_decide_eq_true h⟩

theorem ok_is_name (T : Tx K mg A) : FnOk P w K mg base (L2.CX P w) 1 A.a_is_name A.f_is_name ["value"] (spD K 1 sp_is_name) := by
  refine fn_okD T.F_is_name sc_is_name (by decide) (fun cdv A0 outer s H E g hK hr cy => ?_)
  refine ⟨_, _, (dss_cons (ds_if (DW.dt (dw_or (dt_not (dt_tru cy (de_isi cy (by rfl) T.m_isinstance (da_cons (de_var 0) (da_cons (de_ty (n := "str") (by rfl) T.m_str (by decide +kernel)) da_nil))))) (dw_or (dt_eq cy (de_var 0) de_str) (dw_or1 (dt_gt cy (de_len cy (by rfl) T.m_len (de_var 0)) (de_gint (by rfl) T.m_MOST_SIGNS)))))) (dss_one (ds_ret de_bl)) dss_nil)
    (dss_one (ds_ret (de_and (de_in cy (de_item cy (de_var 0) de_int) (de_gstr (by rfl) T.m_LETTERS)) (de_one (de_all cy (by rfl) T.m_all (de_lc cy (own := [("sign", 1)]) sc_is_name.nd (di_any cy (de_var 0)) (blkOk_by (own := [("sign", 1)]) (N := N_is_name) (sc := defScope s_is_name) (by decide +kernel)) (fun _ _ _ _ _ cy => (dg_name 1 sc_is_name.nd)) (fun _ _ _ _ _ cy => dts_nil) (fun _ _ _ _ _ cy => (de_in cy (de_var 1) (de_gstr (by rfl) T.m_SIGNS)))))))))), fun rs Q Ex hl h => ?_⟩
  obtain ⟨d, rfl, ha, h⟩ := h
  cases d with
  | str s =>
    simp -dsimp only [↓W_var, ↓W_var1, ↓W_var2, ↓W_var3, ↓W_c, ↓W_frz, ↓W_frz1, ↓W_frz2, ↓W_frz3, ↓W_frz4, ↓W_op, ↓W_call, ↓W_fn, ↓W_fn0, ↓W_fnK, ↓W_nil, ↓W_cons, ↓W_add1, ↓W_add2, ↓W_add3, ↓W_add4, ↓W_add5, ↓W_add6, ↓W_add7, ↓W_int, ↓W_int0, ↓W_mul1, ↓W_mul2, ↓W_eq1, ↓W_eq2, ↓W_eq3, ↓W_eq4, ↓W_ne1, ↓W_ne2, ↓W_ne3, ↓W_in1, ↓W_in2, ↓W_in3, ↓W_in4, ↓W_in5, ↓W_is1, ↓W_is2, ↓W_at, ↓W_atS, ↓W_ix1, ↓W_ix2, ↓W_ix3, ↓W_ix4, ↓W_sl, ↓W_on, ↓W_os, ↓W_part, ↓W_sl1, ↓W_sl2, ↓W_sl3, ↓W_sl4, ↓W_len1, ↓W_len2, ↓W_len3, ↓W_len4, ↓W_abs, ↓W_intf, ↓W_strf, ↓W_list1, ↓W_list2, ↓W_list3, ↓W_tup1, ↓W_tup2, ↓W_tup3, ↓W_max, ↓W_min, ↓W_allK, ↓W_all1, ↓W_isi1, ↓W_isi2, ↓W_k_ns, ↓W_k_bs, ↓W_k_is, ↓W_k_ss, ↓W_k_ts, ↓W_k_ls, ↓W_k_nb, ↓W_k_bb, ↓W_k_ib, ↓W_k_sb, ↓W_k_tb, ↓W_k_lb, ↓W_k_ni, ↓W_k_bi, ↓W_k_ii, ↓W_k_si, ↓W_k_ti, ↓W_k_li, ↓W_k_nt, ↓W_k_bt, ↓W_k_it, ↓W_k_st, ↓W_k_tt, ↓W_k_lt, ↓W_k_nl, ↓W_k_bl, ↓W_k_il, ↓W_k_sl, ↓W_k_tl, ↓W_k_ll, ↓W_valsK, ↓W_etup, ↓W_elst, ↓W_vals0, ↓W_vals1, ↓W_bool, ↓W_bool1, ↓W_tand, ↓W_tor, ↓W_tnot, ↓W_tru, ↓W_tru1, ↓W_tru2, ↓W_tru3, ↓W_tru4, ↓W_tru5, ↓W_tru6, ↓W_tru7, ↓W_bo, ↓W_eand, ↓W_eor, ↓W_enot, ↓W_ink, ↓W_eneg, ↓W_snil, ↓W_seq, ↓W_asg, ↓W_asg1, ↓W_asg2, ↓W_asg3, ↓W_ret, ↓W_hand1, ↓W_hand2, ↓W_hand3, ↓W_hand4, ↓W_expr, ↓W_if, ↓W_for, ↓W_any, ↓W_it1, ↓W_it2, ↓W_it3, ↓W_rg1, ↓W_lc, ↓W_bn, ↓W_yes, ↓W_ownK, ↓W_mut, ↓W_app, ↓W_ins, ↓W_setK, ↓W_stK, ↓W_setIx, ↓W_strK, ↓W_upper, ↓W_join1, ↓W_start, ↓W_slot1, ↓W_slot2, ↓W_arg1, ↓W_arg2, ↓W_sFrz, ↓W_strb, endsD, wipeE, List.foldr_cons, List.foldr_nil, List.length_cons, List.length_nil, List.map_cons, List.map_nil, List.cons_append, List.nil_append, List.append_nil, List.replicate, List.getElem?_cons_zero, List.getElem?_cons_succ, List.getElem?_nil, List.set_cons_zero, List.set_cons_succ, Nat.reduceAdd, Nat.reduceSub, Nat.zero_add, if_true, if_false, Bool.false_eq_true, Bool.not_true, Bool.not_false, true_and, and_true, List.forall_mem_cons, List.mem_cons, List.not_mem_nil, or_false, forall_eq_or_imp, forall_eq, false_and, and_false, implies_true, false_or, Option.map_some, Option.map_none, ite_self, Bool.and_true, Bool.true_and, Bool.and_false, Bool.false_and, List.forall_mem_nil, decide_true, decide_false, isNonD, signsD]
    have l1 : s.length ≤ 5000 := ha
    refine iteB (fun c => ?_) (fun c => ?_)
    · have e := of_decide_eq_true c
      subst e
      exact h
    · refine ⟨lim_of (by omega), iteB (fun c2 => ?_) (fun c2 => ?_)⟩
      · have e : isNameD (.str s) = false := by
          have := of_decide_eq_true c2
          have : ¬ s.length ≤ 8 := by omega
          simp [isNameD, isNameS, this]
        rw [e] at h
        exact h
      · have l2 : s.length ≤ 8 := by
          have := of_decide_eq_false c2
          omega
        have l3 : 0 < s.length := by
          have := of_decide_eq_false c
          rcases Nat.eq_zero_or_pos s.length with z | z
          · exact absurd (str_len0 z) this
          · exact z
        obtain ⟨c0, l, el⟩ : ∃ c0 l, s.cps.toList = c0 :: l := by
          cases e : s.cps.toList with
          | nil => rw [← chars_len, e] at l3; exact absurd l3 (by simp)
          | cons a l => exact ⟨a, l, rfl⟩
        refine ⟨lim_of (by omega), c0, by rw [el]; exact atI_nat (j := 0) rfl, ?_⟩
        simp -dsimp only [↓W_var, ↓W_var1, ↓W_var2, ↓W_var3, ↓W_c, ↓W_frz, ↓W_frz1, ↓W_frz2, ↓W_frz3, ↓W_frz4, ↓W_op, ↓W_call, ↓W_fn, ↓W_fn0, ↓W_fnK, ↓W_nil, ↓W_cons, ↓W_add1, ↓W_add2, ↓W_add3, ↓W_add4, ↓W_add5, ↓W_add6, ↓W_add7, ↓W_int, ↓W_int0, ↓W_mul1, ↓W_mul2, ↓W_eq1, ↓W_eq2, ↓W_eq3, ↓W_eq4, ↓W_ne1, ↓W_ne2, ↓W_ne3, ↓W_in1, ↓W_in2, ↓W_in3, ↓W_in4, ↓W_in5, ↓W_is1, ↓W_is2, ↓W_at, ↓W_atS, ↓W_ix1, ↓W_ix2, ↓W_ix3, ↓W_ix4, ↓W_sl, ↓W_on, ↓W_os, ↓W_part, ↓W_sl1, ↓W_sl2, ↓W_sl3, ↓W_sl4, ↓W_len1, ↓W_len2, ↓W_len3, ↓W_len4, ↓W_abs, ↓W_intf, ↓W_strf, ↓W_list1, ↓W_list2, ↓W_list3, ↓W_tup1, ↓W_tup2, ↓W_tup3, ↓W_max, ↓W_min, ↓W_allK, ↓W_all1, ↓W_isi1, ↓W_isi2, ↓W_k_ns, ↓W_k_bs, ↓W_k_is, ↓W_k_ss, ↓W_k_ts, ↓W_k_ls, ↓W_k_nb, ↓W_k_bb, ↓W_k_ib, ↓W_k_sb, ↓W_k_tb, ↓W_k_lb, ↓W_k_ni, ↓W_k_bi, ↓W_k_ii, ↓W_k_si, ↓W_k_ti, ↓W_k_li, ↓W_k_nt, ↓W_k_bt, ↓W_k_it, ↓W_k_st, ↓W_k_tt, ↓W_k_lt, ↓W_k_nl, ↓W_k_bl, ↓W_k_il, ↓W_k_sl, ↓W_k_tl, ↓W_k_ll, ↓W_valsK, ↓W_etup, ↓W_elst, ↓W_vals0, ↓W_vals1, ↓W_bool, ↓W_bool1, ↓W_tand, ↓W_tor, ↓W_tnot, ↓W_tru, ↓W_tru1, ↓W_tru2, ↓W_tru3, ↓W_tru4, ↓W_tru5, ↓W_tru6, ↓W_tru7, ↓W_bo, ↓W_eand, ↓W_eor, ↓W_enot, ↓W_ink, ↓W_eneg, ↓W_snil, ↓W_seq, ↓W_asg, ↓W_asg1, ↓W_asg2, ↓W_asg3, ↓W_ret, ↓W_hand1, ↓W_hand2, ↓W_hand3, ↓W_hand4, ↓W_expr, ↓W_if, ↓W_for, ↓W_any, ↓W_it1, ↓W_it2, ↓W_it3, ↓W_rg1, ↓W_lc, ↓W_bn, ↓W_yes, ↓W_ownK, ↓W_mut, ↓W_app, ↓W_ins, ↓W_setK, ↓W_stK, ↓W_setIx, ↓W_strK, ↓W_upper, ↓W_join1, ↓W_start, ↓W_slot1, ↓W_slot2, ↓W_arg1, ↓W_arg2, ↓W_sFrz, ↓W_strb, endsD, wipeE, List.foldr_cons, List.foldr_nil, List.length_cons, List.length_nil, List.map_cons, List.map_nil, List.cons_append, List.nil_append, List.append_nil, List.replicate, List.getElem?_cons_zero, List.getElem?_cons_succ, List.getElem?_nil, List.set_cons_zero, List.set_cons_succ, Nat.reduceAdd, Nat.reduceSub, Nat.zero_add, if_true, if_false, Bool.false_eq_true, Bool.not_true, Bool.not_false, true_and, and_true, List.forall_mem_cons, List.mem_cons, List.not_mem_nil, or_false, forall_eq_or_imp, forall_eq, false_and, and_false, implies_true, false_or, Option.map_some, Option.map_none, ite_self, Bool.and_true, Bool.true_and, Bool.and_false, Bool.false_and, List.forall_mem_nil, decide_true, decide_false, isNonD, signsD]
        refine iteB (fun f => ?_) (fun f => ?_)
        · refine ⟨nn_of (by rw [List.length_map, chars_len]; omega), lcW_map (fun _ => true) sigB _ _ (fun d hd Y N hy _ => ?_) ?_⟩
          · obtain ⟨c, hc, rfl⟩ := List.mem_map.mp hd
            simp -dsimp only [↓W_var, ↓W_var1, ↓W_var2, ↓W_var3, ↓W_c, ↓W_frz, ↓W_frz1, ↓W_frz2, ↓W_frz3, ↓W_frz4, ↓W_op, ↓W_call, ↓W_fn, ↓W_fn0, ↓W_fnK, ↓W_nil, ↓W_cons, ↓W_add1, ↓W_add2, ↓W_add3, ↓W_add4, ↓W_add5, ↓W_add6, ↓W_add7, ↓W_int, ↓W_int0, ↓W_mul1, ↓W_mul2, ↓W_eq1, ↓W_eq2, ↓W_eq3, ↓W_eq4, ↓W_ne1, ↓W_ne2, ↓W_ne3, ↓W_in1, ↓W_in2, ↓W_in3, ↓W_in4, ↓W_in5, ↓W_is1, ↓W_is2, ↓W_at, ↓W_atS, ↓W_ix1, ↓W_ix2, ↓W_ix3, ↓W_ix4, ↓W_sl, ↓W_on, ↓W_os, ↓W_part, ↓W_sl1, ↓W_sl2, ↓W_sl3, ↓W_sl4, ↓W_len1, ↓W_len2, ↓W_len3, ↓W_len4, ↓W_abs, ↓W_intf, ↓W_strf, ↓W_list1, ↓W_list2, ↓W_list3, ↓W_tup1, ↓W_tup2, ↓W_tup3, ↓W_max, ↓W_min, ↓W_allK, ↓W_all1, ↓W_isi1, ↓W_isi2, ↓W_k_ns, ↓W_k_bs, ↓W_k_is, ↓W_k_ss, ↓W_k_ts, ↓W_k_ls, ↓W_k_nb, ↓W_k_bb, ↓W_k_ib, ↓W_k_sb, ↓W_k_tb, ↓W_k_lb, ↓W_k_ni, ↓W_k_bi, ↓W_k_ii, ↓W_k_si, ↓W_k_ti, ↓W_k_li, ↓W_k_nt, ↓W_k_bt, ↓W_k_it, ↓W_k_st, ↓W_k_tt, ↓W_k_lt, ↓W_k_nl, ↓W_k_bl, ↓W_k_il, ↓W_k_sl, ↓W_k_tl, ↓W_k_ll, ↓W_valsK, ↓W_etup, ↓W_elst, ↓W_vals0, ↓W_vals1, ↓W_bool, ↓W_bool1, ↓W_tand, ↓W_tor, ↓W_tnot, ↓W_tru, ↓W_tru1, ↓W_tru2, ↓W_tru3, ↓W_tru4, ↓W_tru5, ↓W_tru6, ↓W_tru7, ↓W_bo, ↓W_eand, ↓W_eor, ↓W_enot, ↓W_ink, ↓W_eneg, ↓W_snil, ↓W_seq, ↓W_asg, ↓W_asg1, ↓W_asg2, ↓W_asg3, ↓W_ret, ↓W_hand1, ↓W_hand2, ↓W_hand3, ↓W_hand4, ↓W_expr, ↓W_if, ↓W_for, ↓W_any, ↓W_it1, ↓W_it2, ↓W_it3, ↓W_rg1, ↓W_lc, ↓W_bn, ↓W_yes, ↓W_ownK, ↓W_mut, ↓W_app, ↓W_ins, ↓W_setK, ↓W_stK, ↓W_setIx, ↓W_strK, ↓W_upper, ↓W_join1, ↓W_start, ↓W_slot1, ↓W_slot2, ↓W_arg1, ↓W_arg2, ↓W_sFrz, ↓W_strb, endsD, wipeE, List.foldr_cons, List.foldr_nil, List.length_cons, List.length_nil, List.map_cons, List.map_nil, List.cons_append, List.nil_append, List.append_nil, List.replicate, List.getElem?_cons_zero, List.getElem?_cons_succ, List.getElem?_nil, List.set_cons_zero, List.set_cons_succ, Nat.reduceAdd, Nat.reduceSub, Nat.zero_add, if_true, if_false, Bool.false_eq_true, Bool.not_true, Bool.not_false, true_and, and_true, List.forall_mem_cons, List.mem_cons, List.not_mem_nil, or_false, forall_eq_or_imp, forall_eq, false_and, and_false, implies_true, false_or, Option.map_some, Option.map_none, ite_self, Bool.and_true, Bool.true_and, Bool.and_false, Bool.false_and, List.forall_mem_nil, decide_true, decide_false, isNonD, signsD]
            exact ⟨_, rfl, hy rfl⟩
          · rw [sig_map]
            simp -dsimp only [↓W_var, ↓W_var1, ↓W_var2, ↓W_var3, ↓W_c, ↓W_frz, ↓W_frz1, ↓W_frz2, ↓W_frz3, ↓W_frz4, ↓W_op, ↓W_call, ↓W_fn, ↓W_fn0, ↓W_fnK, ↓W_nil, ↓W_cons, ↓W_add1, ↓W_add2, ↓W_add3, ↓W_add4, ↓W_add5, ↓W_add6, ↓W_add7, ↓W_int, ↓W_int0, ↓W_mul1, ↓W_mul2, ↓W_eq1, ↓W_eq2, ↓W_eq3, ↓W_eq4, ↓W_ne1, ↓W_ne2, ↓W_ne3, ↓W_in1, ↓W_in2, ↓W_in3, ↓W_in4, ↓W_in5, ↓W_is1, ↓W_is2, ↓W_at, ↓W_atS, ↓W_ix1, ↓W_ix2, ↓W_ix3, ↓W_ix4, ↓W_sl, ↓W_on, ↓W_os, ↓W_part, ↓W_sl1, ↓W_sl2, ↓W_sl3, ↓W_sl4, ↓W_len1, ↓W_len2, ↓W_len3, ↓W_len4, ↓W_abs, ↓W_intf, ↓W_strf, ↓W_list1, ↓W_list2, ↓W_list3, ↓W_tup1, ↓W_tup2, ↓W_tup3, ↓W_max, ↓W_min, ↓W_allK, ↓W_all1, ↓W_isi1, ↓W_isi2, ↓W_k_ns, ↓W_k_bs, ↓W_k_is, ↓W_k_ss, ↓W_k_ts, ↓W_k_ls, ↓W_k_nb, ↓W_k_bb, ↓W_k_ib, ↓W_k_sb, ↓W_k_tb, ↓W_k_lb, ↓W_k_ni, ↓W_k_bi, ↓W_k_ii, ↓W_k_si, ↓W_k_ti, ↓W_k_li, ↓W_k_nt, ↓W_k_bt, ↓W_k_it, ↓W_k_st, ↓W_k_tt, ↓W_k_lt, ↓W_k_nl, ↓W_k_bl, ↓W_k_il, ↓W_k_sl, ↓W_k_tl, ↓W_k_ll, ↓W_valsK, ↓W_etup, ↓W_elst, ↓W_vals0, ↓W_vals1, ↓W_bool, ↓W_bool1, ↓W_tand, ↓W_tor, ↓W_tnot, ↓W_tru, ↓W_tru1, ↓W_tru2, ↓W_tru3, ↓W_tru4, ↓W_tru5, ↓W_tru6, ↓W_tru7, ↓W_bo, ↓W_eand, ↓W_eor, ↓W_enot, ↓W_ink, ↓W_eneg, ↓W_snil, ↓W_seq, ↓W_asg, ↓W_asg1, ↓W_asg2, ↓W_asg3, ↓W_ret, ↓W_hand1, ↓W_hand2, ↓W_hand3, ↓W_hand4, ↓W_expr, ↓W_if, ↓W_for, ↓W_any, ↓W_it1, ↓W_it2, ↓W_it3, ↓W_rg1, ↓W_lc, ↓W_bn, ↓W_yes, ↓W_ownK, ↓W_mut, ↓W_app, ↓W_ins, ↓W_setK, ↓W_stK, ↓W_setIx, ↓W_strK, ↓W_upper, ↓W_join1, ↓W_start, ↓W_slot1, ↓W_slot2, ↓W_arg1, ↓W_arg2, ↓W_sFrz, ↓W_strb, endsD, wipeE, List.foldr_cons, List.foldr_nil, List.length_cons, List.length_nil, List.map_cons, List.map_nil, List.cons_append, List.nil_append, List.append_nil, List.replicate, List.getElem?_cons_zero, List.getElem?_cons_succ, List.getElem?_nil, List.set_cons_zero, List.set_cons_succ, Nat.reduceAdd, Nat.reduceSub, Nat.zero_add, if_true, if_false, Bool.false_eq_true, Bool.not_true, Bool.not_false, true_and, and_true, List.forall_mem_cons, List.mem_cons, List.not_mem_nil, or_false, forall_eq_or_imp, forall_eq, false_and, and_false, implies_true, false_or, Option.map_some, Option.map_none, ite_self, Bool.and_true, Bool.true_and, Bool.and_false, Bool.false_and, List.forall_mem_nil, decide_true, decide_false, isNonD, signsD]
            rw [bools_map]
            simp -dsimp only [↓W_var, ↓W_var1, ↓W_var2, ↓W_var3, ↓W_c, ↓W_frz, ↓W_frz1, ↓W_frz2, ↓W_frz3, ↓W_frz4, ↓W_op, ↓W_call, ↓W_fn, ↓W_fn0, ↓W_fnK, ↓W_nil, ↓W_cons, ↓W_add1, ↓W_add2, ↓W_add3, ↓W_add4, ↓W_add5, ↓W_add6, ↓W_add7, ↓W_int, ↓W_int0, ↓W_mul1, ↓W_mul2, ↓W_eq1, ↓W_eq2, ↓W_eq3, ↓W_eq4, ↓W_ne1, ↓W_ne2, ↓W_ne3, ↓W_in1, ↓W_in2, ↓W_in3, ↓W_in4, ↓W_in5, ↓W_is1, ↓W_is2, ↓W_at, ↓W_atS, ↓W_ix1, ↓W_ix2, ↓W_ix3, ↓W_ix4, ↓W_sl, ↓W_on, ↓W_os, ↓W_part, ↓W_sl1, ↓W_sl2, ↓W_sl3, ↓W_sl4, ↓W_len1, ↓W_len2, ↓W_len3, ↓W_len4, ↓W_abs, ↓W_intf, ↓W_strf, ↓W_list1, ↓W_list2, ↓W_list3, ↓W_tup1, ↓W_tup2, ↓W_tup3, ↓W_max, ↓W_min, ↓W_allK, ↓W_all1, ↓W_isi1, ↓W_isi2, ↓W_k_ns, ↓W_k_bs, ↓W_k_is, ↓W_k_ss, ↓W_k_ts, ↓W_k_ls, ↓W_k_nb, ↓W_k_bb, ↓W_k_ib, ↓W_k_sb, ↓W_k_tb, ↓W_k_lb, ↓W_k_ni, ↓W_k_bi, ↓W_k_ii, ↓W_k_si, ↓W_k_ti, ↓W_k_li, ↓W_k_nt, ↓W_k_bt, ↓W_k_it, ↓W_k_st, ↓W_k_tt, ↓W_k_lt, ↓W_k_nl, ↓W_k_bl, ↓W_k_il, ↓W_k_sl, ↓W_k_tl, ↓W_k_ll, ↓W_valsK, ↓W_etup, ↓W_elst, ↓W_vals0, ↓W_vals1, ↓W_bool, ↓W_bool1, ↓W_tand, ↓W_tor, ↓W_tnot, ↓W_tru, ↓W_tru1, ↓W_tru2, ↓W_tru3, ↓W_tru4, ↓W_tru5, ↓W_tru6, ↓W_tru7, ↓W_bo, ↓W_eand, ↓W_eor, ↓W_enot, ↓W_ink, ↓W_eneg, ↓W_snil, ↓W_seq, ↓W_asg, ↓W_asg1, ↓W_asg2, ↓W_asg3, ↓W_ret, ↓W_hand1, ↓W_hand2, ↓W_hand3, ↓W_hand4, ↓W_expr, ↓W_if, ↓W_for, ↓W_any, ↓W_it1, ↓W_it2, ↓W_it3, ↓W_rg1, ↓W_lc, ↓W_bn, ↓W_yes, ↓W_ownK, ↓W_mut, ↓W_app, ↓W_ins, ↓W_setK, ↓W_stK, ↓W_setIx, ↓W_strK, ↓W_upper, ↓W_join1, ↓W_start, ↓W_slot1, ↓W_slot2, ↓W_arg1, ↓W_arg2, ↓W_sFrz, ↓W_strb, endsD, wipeE, List.foldr_cons, List.foldr_nil, List.length_cons, List.length_nil, List.map_cons, List.map_nil, List.cons_append, List.nil_append, List.append_nil, List.replicate, List.getElem?_cons_zero, List.getElem?_cons_succ, List.getElem?_nil, List.set_cons_zero, List.set_cons_succ, Nat.reduceAdd, Nat.reduceSub, Nat.zero_add, if_true, if_false, Bool.false_eq_true, Bool.not_true, Bool.not_false, true_and, and_true, List.forall_mem_cons, List.mem_cons, List.not_mem_nil, or_false, forall_eq_or_imp, forall_eq, false_and, and_false, implies_true, false_or, Option.map_some, Option.map_none, ite_self, Bool.and_true, Bool.true_and, Bool.and_false, Bool.false_and, List.forall_mem_nil, decide_true, decide_false, isNonD, signsD]
            have e : isNameD (.str s) = (s.cps.toList.map fun c => decide (c ∈ SIG.cps.toList)).all id := by
              show isNameS s = _
              unfold isNameS
              rw [decide_eq_true l3, decide_eq_true l2, el]
              have f2 : firstIn (c0 :: l) = true := f
              rw [f2, List.all_map]
              rfl
            rw [e] at h
            exact h
        · have e : isNameD (.str s) = false := by
            show isNameS s = _
            unfold isNameS
            rw [el]
            have f2 : firstIn (c0 :: l) = false := f
            rw [f2, Bool.and_false, Bool.false_and]
          rw [e] at h
          exact h
  | non => 
    simp -dsimp only [↓W_var, ↓W_var1, ↓W_var2, ↓W_var3, ↓W_c, ↓W_frz, ↓W_frz1, ↓W_frz2, ↓W_frz3, ↓W_frz4, ↓W_op, ↓W_call, ↓W_fn, ↓W_fn0, ↓W_fnK, ↓W_nil, ↓W_cons, ↓W_add1, ↓W_add2, ↓W_add3, ↓W_add4, ↓W_add5, ↓W_add6, ↓W_add7, ↓W_int, ↓W_int0, ↓W_mul1, ↓W_mul2, ↓W_eq1, ↓W_eq2, ↓W_eq3, ↓W_eq4, ↓W_ne1, ↓W_ne2, ↓W_ne3, ↓W_in1, ↓W_in2, ↓W_in3, ↓W_in4, ↓W_in5, ↓W_is1, ↓W_is2, ↓W_at, ↓W_atS, ↓W_ix1, ↓W_ix2, ↓W_ix3, ↓W_ix4, ↓W_sl, ↓W_on, ↓W_os, ↓W_part, ↓W_sl1, ↓W_sl2, ↓W_sl3, ↓W_sl4, ↓W_len1, ↓W_len2, ↓W_len3, ↓W_len4, ↓W_abs, ↓W_intf, ↓W_strf, ↓W_list1, ↓W_list2, ↓W_list3, ↓W_tup1, ↓W_tup2, ↓W_tup3, ↓W_max, ↓W_min, ↓W_allK, ↓W_all1, ↓W_isi1, ↓W_isi2, ↓W_k_ns, ↓W_k_bs, ↓W_k_is, ↓W_k_ss, ↓W_k_ts, ↓W_k_ls, ↓W_k_nb, ↓W_k_bb, ↓W_k_ib, ↓W_k_sb, ↓W_k_tb, ↓W_k_lb, ↓W_k_ni, ↓W_k_bi, ↓W_k_ii, ↓W_k_si, ↓W_k_ti, ↓W_k_li, ↓W_k_nt, ↓W_k_bt, ↓W_k_it, ↓W_k_st, ↓W_k_tt, ↓W_k_lt, ↓W_k_nl, ↓W_k_bl, ↓W_k_il, ↓W_k_sl, ↓W_k_tl, ↓W_k_ll, ↓W_valsK, ↓W_etup, ↓W_elst, ↓W_vals0, ↓W_vals1, ↓W_bool, ↓W_bool1, ↓W_tand, ↓W_tor, ↓W_tnot, ↓W_tru, ↓W_tru1, ↓W_tru2, ↓W_tru3, ↓W_tru4, ↓W_tru5, ↓W_tru6, ↓W_tru7, ↓W_bo, ↓W_eand, ↓W_eor, ↓W_enot, ↓W_ink, ↓W_eneg, ↓W_snil, ↓W_seq, ↓W_asg, ↓W_asg1, ↓W_asg2, ↓W_asg3, ↓W_ret, ↓W_hand1, ↓W_hand2, ↓W_hand3, ↓W_hand4, ↓W_expr, ↓W_if, ↓W_for, ↓W_any, ↓W_it1, ↓W_it2, ↓W_it3, ↓W_rg1, ↓W_lc, ↓W_bn, ↓W_yes, ↓W_ownK, ↓W_mut, ↓W_app, ↓W_ins, ↓W_setK, ↓W_stK, ↓W_setIx, ↓W_strK, ↓W_upper, ↓W_join1, ↓W_start, ↓W_slot1, ↓W_slot2, ↓W_arg1, ↓W_arg2, ↓W_sFrz, ↓W_strb, endsD, wipeE, List.foldr_cons, List.foldr_nil, List.length_cons, List.length_nil, List.map_cons, List.map_nil, List.cons_append, List.nil_append, List.append_nil, List.replicate, List.getElem?_cons_zero, List.getElem?_cons_succ, List.getElem?_nil, List.set_cons_zero, List.set_cons_succ, Nat.reduceAdd, Nat.reduceSub, Nat.zero_add, if_true, if_false, Bool.false_eq_true, Bool.not_true, Bool.not_false, true_and, and_true, List.forall_mem_cons, List.mem_cons, List.not_mem_nil, or_false, forall_eq_or_imp, forall_eq, false_and, and_false, implies_true, false_or, Option.map_some, Option.map_none, ite_self, Bool.and_true, Bool.true_and, Bool.and_false, Bool.false_and, List.forall_mem_nil, decide_true, decide_false, isNonD, signsD]
    exact h
  | bl b => 
    simp -dsimp only [↓W_var, ↓W_var1, ↓W_var2, ↓W_var3, ↓W_c, ↓W_frz, ↓W_frz1, ↓W_frz2, ↓W_frz3, ↓W_frz4, ↓W_op, ↓W_call, ↓W_fn, ↓W_fn0, ↓W_fnK, ↓W_nil, ↓W_cons, ↓W_add1, ↓W_add2, ↓W_add3, ↓W_add4, ↓W_add5, ↓W_add6, ↓W_add7, ↓W_int, ↓W_int0, ↓W_mul1, ↓W_mul2, ↓W_eq1, ↓W_eq2, ↓W_eq3, ↓W_eq4, ↓W_ne1, ↓W_ne2, ↓W_ne3, ↓W_in1, ↓W_in2, ↓W_in3, ↓W_in4, ↓W_in5, ↓W_is1, ↓W_is2, ↓W_at, ↓W_atS, ↓W_ix1, ↓W_ix2, ↓W_ix3, ↓W_ix4, ↓W_sl, ↓W_on, ↓W_os, ↓W_part, ↓W_sl1, ↓W_sl2, ↓W_sl3, ↓W_sl4, ↓W_len1, ↓W_len2, ↓W_len3, ↓W_len4, ↓W_abs, ↓W_intf, ↓W_strf, ↓W_list1, ↓W_list2, ↓W_list3, ↓W_tup1, ↓W_tup2, ↓W_tup3, ↓W_max, ↓W_min, ↓W_allK, ↓W_all1, ↓W_isi1, ↓W_isi2, ↓W_k_ns, ↓W_k_bs, ↓W_k_is, ↓W_k_ss, ↓W_k_ts, ↓W_k_ls, ↓W_k_nb, ↓W_k_bb, ↓W_k_ib, ↓W_k_sb, ↓W_k_tb, ↓W_k_lb, ↓W_k_ni, ↓W_k_bi, ↓W_k_ii, ↓W_k_si, ↓W_k_ti, ↓W_k_li, ↓W_k_nt, ↓W_k_bt, ↓W_k_it, ↓W_k_st, ↓W_k_tt, ↓W_k_lt, ↓W_k_nl, ↓W_k_bl, ↓W_k_il, ↓W_k_sl, ↓W_k_tl, ↓W_k_ll, ↓W_valsK, ↓W_etup, ↓W_elst, ↓W_vals0, ↓W_vals1, ↓W_bool, ↓W_bool1, ↓W_tand, ↓W_tor, ↓W_tnot, ↓W_tru, ↓W_tru1, ↓W_tru2, ↓W_tru3, ↓W_tru4, ↓W_tru5, ↓W_tru6, ↓W_tru7, ↓W_bo, ↓W_eand, ↓W_eor, ↓W_enot, ↓W_ink, ↓W_eneg, ↓W_snil, ↓W_seq, ↓W_asg, ↓W_asg1, ↓W_asg2, ↓W_asg3, ↓W_ret, ↓W_hand1, ↓W_hand2, ↓W_hand3, ↓W_hand4, ↓W_expr, ↓W_if, ↓W_for, ↓W_any, ↓W_it1, ↓W_it2, ↓W_it3, ↓W_rg1, ↓W_lc, ↓W_bn, ↓W_yes, ↓W_ownK, ↓W_mut, ↓W_app, ↓W_ins, ↓W_setK, ↓W_stK, ↓W_setIx, ↓W_strK, ↓W_upper, ↓W_join1, ↓W_start, ↓W_slot1, ↓W_slot2, ↓W_arg1, ↓W_arg2, ↓W_sFrz, ↓W_strb, endsD, wipeE, List.foldr_cons, List.foldr_nil, List.length_cons, List.length_nil, List.map_cons, List.map_nil, List.cons_append, List.nil_append, List.append_nil, List.replicate, List.getElem?_cons_zero, List.getElem?_cons_succ, List.getElem?_nil, List.set_cons_zero, List.set_cons_succ, Nat.reduceAdd, Nat.reduceSub, Nat.zero_add, if_true, if_false, Bool.false_eq_true, Bool.not_true, Bool.not_false, true_and, and_true, List.forall_mem_cons, List.mem_cons, List.not_mem_nil, or_false, forall_eq_or_imp, forall_eq, false_and, and_false, implies_true, false_or, Option.map_some, Option.map_none, ite_self, Bool.and_true, Bool.true_and, Bool.and_false, Bool.false_and, List.forall_mem_nil, decide_true, decide_false, isNonD, signsD]
    exact h
  | int i => 
    simp -dsimp only [↓W_var, ↓W_var1, ↓W_var2, ↓W_var3, ↓W_c, ↓W_frz, ↓W_frz1, ↓W_frz2, ↓W_frz3, ↓W_frz4, ↓W_op, ↓W_call, ↓W_fn, ↓W_fn0, ↓W_fnK, ↓W_nil, ↓W_cons, ↓W_add1, ↓W_add2, ↓W_add3, ↓W_add4, ↓W_add5, ↓W_add6, ↓W_add7, ↓W_int, ↓W_int0, ↓W_mul1, ↓W_mul2, ↓W_eq1, ↓W_eq2, ↓W_eq3, ↓W_eq4, ↓W_ne1, ↓W_ne2, ↓W_ne3, ↓W_in1, ↓W_in2, ↓W_in3, ↓W_in4, ↓W_in5, ↓W_is1, ↓W_is2, ↓W_at, ↓W_atS, ↓W_ix1, ↓W_ix2, ↓W_ix3, ↓W_ix4, ↓W_sl, ↓W_on, ↓W_os, ↓W_part, ↓W_sl1, ↓W_sl2, ↓W_sl3, ↓W_sl4, ↓W_len1, ↓W_len2, ↓W_len3, ↓W_len4, ↓W_abs, ↓W_intf, ↓W_strf, ↓W_list1, ↓W_list2, ↓W_list3, ↓W_tup1, ↓W_tup2, ↓W_tup3, ↓W_max, ↓W_min, ↓W_allK, ↓W_all1, ↓W_isi1, ↓W_isi2, ↓W_k_ns, ↓W_k_bs, ↓W_k_is, ↓W_k_ss, ↓W_k_ts, ↓W_k_ls, ↓W_k_nb, ↓W_k_bb, ↓W_k_ib, ↓W_k_sb, ↓W_k_tb, ↓W_k_lb, ↓W_k_ni, ↓W_k_bi, ↓W_k_ii, ↓W_k_si, ↓W_k_ti, ↓W_k_li, ↓W_k_nt, ↓W_k_bt, ↓W_k_it, ↓W_k_st, ↓W_k_tt, ↓W_k_lt, ↓W_k_nl, ↓W_k_bl, ↓W_k_il, ↓W_k_sl, ↓W_k_tl, ↓W_k_ll, ↓W_valsK, ↓W_etup, ↓W_elst, ↓W_vals0, ↓W_vals1, ↓W_bool, ↓W_bool1, ↓W_tand, ↓W_tor, ↓W_tnot, ↓W_tru, ↓W_tru1, ↓W_tru2, ↓W_tru3, ↓W_tru4, ↓W_tru5, ↓W_tru6, ↓W_tru7, ↓W_bo, ↓W_eand, ↓W_eor, ↓W_enot, ↓W_ink, ↓W_eneg, ↓W_snil, ↓W_seq, ↓W_asg, ↓W_asg1, ↓W_asg2, ↓W_asg3, ↓W_ret, ↓W_hand1, ↓W_hand2, ↓W_hand3, ↓W_hand4, ↓W_expr, ↓W_if, ↓W_for, ↓W_any, ↓W_it1, ↓W_it2, ↓W_it3, ↓W_rg1, ↓W_lc, ↓W_bn, ↓W_yes, ↓W_ownK, ↓W_mut, ↓W_app, ↓W_ins, ↓W_setK, ↓W_stK, ↓W_setIx, ↓W_strK, ↓W_upper, ↓W_join1, ↓W_start, ↓W_slot1, ↓W_slot2, ↓W_arg1, ↓W_arg2, ↓W_sFrz, ↓W_strb, endsD, wipeE, List.foldr_cons, List.foldr_nil, List.length_cons, List.length_nil, List.map_cons, List.map_nil, List.cons_append, List.nil_append, List.append_nil, List.replicate, List.getElem?_cons_zero, List.getElem?_cons_succ, List.getElem?_nil, List.set_cons_zero, List.set_cons_succ, Nat.reduceAdd, Nat.reduceSub, Nat.zero_add, if_true, if_false, Bool.false_eq_true, Bool.not_true, Bool.not_false, true_and, and_true, List.forall_mem_cons, List.mem_cons, List.not_mem_nil, or_false, forall_eq_or_imp, forall_eq, false_and, and_false, implies_true, false_or, Option.map_some, Option.map_none, ite_self, Bool.and_true, Bool.true_and, Bool.and_false, Bool.false_and, List.forall_mem_nil, decide_true, decide_false, isNonD, signsD]
    exact h
  | tup ds => 
    simp -dsimp only [↓W_var, ↓W_var1, ↓W_var2, ↓W_var3, ↓W_c, ↓W_frz, ↓W_frz1, ↓W_frz2, ↓W_frz3, ↓W_frz4, ↓W_op, ↓W_call, ↓W_fn, ↓W_fn0, ↓W_fnK, ↓W_nil, ↓W_cons, ↓W_add1, ↓W_add2, ↓W_add3, ↓W_add4, ↓W_add5, ↓W_add6, ↓W_add7, ↓W_int, ↓W_int0, ↓W_mul1, ↓W_mul2, ↓W_eq1, ↓W_eq2, ↓W_eq3, ↓W_eq4, ↓W_ne1, ↓W_ne2, ↓W_ne3, ↓W_in1, ↓W_in2, ↓W_in3, ↓W_in4, ↓W_in5, ↓W_is1, ↓W_is2, ↓W_at, ↓W_atS, ↓W_ix1, ↓W_ix2, ↓W_ix3, ↓W_ix4, ↓W_sl, ↓W_on, ↓W_os, ↓W_part, ↓W_sl1, ↓W_sl2, ↓W_sl3, ↓W_sl4, ↓W_len1, ↓W_len2, ↓W_len3, ↓W_len4, ↓W_abs, ↓W_intf, ↓W_strf, ↓W_list1, ↓W_list2, ↓W_list3, ↓W_tup1, ↓W_tup2, ↓W_tup3, ↓W_max, ↓W_min, ↓W_allK, ↓W_all1, ↓W_isi1, ↓W_isi2, ↓W_k_ns, ↓W_k_bs, ↓W_k_is, ↓W_k_ss, ↓W_k_ts, ↓W_k_ls, ↓W_k_nb, ↓W_k_bb, ↓W_k_ib, ↓W_k_sb, ↓W_k_tb, ↓W_k_lb, ↓W_k_ni, ↓W_k_bi, ↓W_k_ii, ↓W_k_si, ↓W_k_ti, ↓W_k_li, ↓W_k_nt, ↓W_k_bt, ↓W_k_it, ↓W_k_st, ↓W_k_tt, ↓W_k_lt, ↓W_k_nl, ↓W_k_bl, ↓W_k_il, ↓W_k_sl, ↓W_k_tl, ↓W_k_ll, ↓W_valsK, ↓W_etup, ↓W_elst, ↓W_vals0, ↓W_vals1, ↓W_bool, ↓W_bool1, ↓W_tand, ↓W_tor, ↓W_tnot, ↓W_tru, ↓W_tru1, ↓W_tru2, ↓W_tru3, ↓W_tru4, ↓W_tru5, ↓W_tru6, ↓W_tru7, ↓W_bo, ↓W_eand, ↓W_eor, ↓W_enot, ↓W_ink, ↓W_eneg, ↓W_snil, ↓W_seq, ↓W_asg, ↓W_asg1, ↓W_asg2, ↓W_asg3, ↓W_ret, ↓W_hand1, ↓W_hand2, ↓W_hand3, ↓W_hand4, ↓W_expr, ↓W_if, ↓W_for, ↓W_any, ↓W_it1, ↓W_it2, ↓W_it3, ↓W_rg1, ↓W_lc, ↓W_bn, ↓W_yes, ↓W_ownK, ↓W_mut, ↓W_app, ↓W_ins, ↓W_setK, ↓W_stK, ↓W_setIx, ↓W_strK, ↓W_upper, ↓W_join1, ↓W_start, ↓W_slot1, ↓W_slot2, ↓W_arg1, ↓W_arg2, ↓W_sFrz, ↓W_strb, endsD, wipeE, List.foldr_cons, List.foldr_nil, List.length_cons, List.length_nil, List.map_cons, List.map_nil, List.cons_append, List.nil_append, List.append_nil, List.replicate, List.getElem?_cons_zero, List.getElem?_cons_succ, List.getElem?_nil, List.set_cons_zero, List.set_cons_succ, Nat.reduceAdd, Nat.reduceSub, Nat.zero_add, if_true, if_false, Bool.false_eq_true, Bool.not_true, Bool.not_false, true_and, and_true, List.forall_mem_cons, List.mem_cons, List.not_mem_nil, or_false, forall_eq_or_imp, forall_eq, false_and, and_false, implies_true, false_or, Option.map_some, Option.map_none, ite_self, Bool.and_true, Bool.true_and, Bool.and_false, Bool.false_and, List.forall_mem_nil, decide_true, decide_false, isNonD, signsD]
    exact h
  | lst ds => 
    simp -dsimp only [↓W_var, ↓W_var1, ↓W_var2, ↓W_var3, ↓W_c, ↓W_frz, ↓W_frz1, ↓W_frz2, ↓W_frz3, ↓W_frz4, ↓W_op, ↓W_call, ↓W_fn, ↓W_fn0, ↓W_fnK, ↓W_nil, ↓W_cons, ↓W_add1, ↓W_add2, ↓W_add3, ↓W_add4, ↓W_add5, ↓W_add6, ↓W_add7, ↓W_int, ↓W_int0, ↓W_mul1, ↓W_mul2, ↓W_eq1, ↓W_eq2, ↓W_eq3, ↓W_eq4, ↓W_ne1, ↓W_ne2, ↓W_ne3, ↓W_in1, ↓W_in2, ↓W_in3, ↓W_in4, ↓W_in5, ↓W_is1, ↓W_is2, ↓W_at, ↓W_atS, ↓W_ix1, ↓W_ix2, ↓W_ix3, ↓W_ix4, ↓W_sl, ↓W_on, ↓W_os, ↓W_part, ↓W_sl1, ↓W_sl2, ↓W_sl3, ↓W_sl4, ↓W_len1, ↓W_len2, ↓W_len3, ↓W_len4, ↓W_abs, ↓W_intf, ↓W_strf, ↓W_list1, ↓W_list2, ↓W_list3, ↓W_tup1, ↓W_tup2, ↓W_tup3, ↓W_max, ↓W_min, ↓W_allK, ↓W_all1, ↓W_isi1, ↓W_isi2, ↓W_k_ns, ↓W_k_bs, ↓W_k_is, ↓W_k_ss, ↓W_k_ts, ↓W_k_ls, ↓W_k_nb, ↓W_k_bb, ↓W_k_ib, ↓W_k_sb, ↓W_k_tb, ↓W_k_lb, ↓W_k_ni, ↓W_k_bi, ↓W_k_ii, ↓W_k_si, ↓W_k_ti, ↓W_k_li, ↓W_k_nt, ↓W_k_bt, ↓W_k_it, ↓W_k_st, ↓W_k_tt, ↓W_k_lt, ↓W_k_nl, ↓W_k_bl, ↓W_k_il, ↓W_k_sl, ↓W_k_tl, ↓W_k_ll, ↓W_valsK, ↓W_etup, ↓W_elst, ↓W_vals0, ↓W_vals1, ↓W_bool, ↓W_bool1, ↓W_tand, ↓W_tor, ↓W_tnot, ↓W_tru, ↓W_tru1, ↓W_tru2, ↓W_tru3, ↓W_tru4, ↓W_tru5, ↓W_tru6, ↓W_tru7, ↓W_bo, ↓W_eand, ↓W_eor, ↓W_enot, ↓W_ink, ↓W_eneg, ↓W_snil, ↓W_seq, ↓W_asg, ↓W_asg1, ↓W_asg2, ↓W_asg3, ↓W_ret, ↓W_hand1, ↓W_hand2, ↓W_hand3, ↓W_hand4, ↓W_expr, ↓W_if, ↓W_for, ↓W_any, ↓W_it1, ↓W_it2, ↓W_it3, ↓W_rg1, ↓W_lc, ↓W_bn, ↓W_yes, ↓W_ownK, ↓W_mut, ↓W_app, ↓W_ins, ↓W_setK, ↓W_stK, ↓W_setIx, ↓W_strK, ↓W_upper, ↓W_join1, ↓W_start, ↓W_slot1, ↓W_slot2, ↓W_arg1, ↓W_arg2, ↓W_sFrz, ↓W_strb, endsD, wipeE, List.foldr_cons, List.foldr_nil, List.length_cons, List.length_nil, List.map_cons, List.map_nil, List.cons_append, List.nil_append, List.append_nil, List.replicate, List.getElem?_cons_zero, List.getElem?_cons_succ, List.getElem?_nil, List.set_cons_zero, List.set_cons_succ, Nat.reduceAdd, Nat.reduceSub, Nat.zero_add, if_true, if_false, Bool.false_eq_true, Bool.not_true, Bool.not_false, true_and, and_true, List.forall_mem_cons, List.mem_cons, List.not_mem_nil, or_false, forall_eq_or_imp, forall_eq, false_and, and_false, implies_true, false_or, Option.map_some, Option.map_none, ite_self, Bool.and_true, Bool.true_and, Bool.and_false, Bool.false_and, List.forall_mem_nil, decide_true, decide_false, isNonD, signsD]
    exact h
  | _ => exact ha.elim


def sp__law_due : FD := fun rs Q _ => ∃ d, rs = [.val d] ∧ AskD d ∧ Q (.val (.bl (isNameD d)))
theorem mono__law_due : MonoF sp__law_due := fun rs Q Q' E E' hq he ⟨d, h1, h2, h3⟩ => ⟨d, h1, h2, hq _ h3⟩


theorem first_of {s : Str} (l3 : 0 < s.length) : ∃ c0 l, s.cps.toList = c0 :: l := by
  cases e : s.cps.toList with
  | nil => rw [← chars_len, e] at l3; exact absurd l3 (by simp)
  | cons a l => exact ⟨a, l, rfl⟩
theorem isn_eq {s : Str} {c0 : Nat} {l : List Nat} (l3 : 0 < s.length) (l2 : s.length ≤ 8) (el : s.cps.toList = c0 :: l) : isNameD (.str s) = (decide (c0 ∈ LET.cps.toList) && s.cps.toList.all fun c => decide (c ∈ SIG.cps.toList)) := by
  show isNameS s = _
  unfold isNameS
  rw [decide_eq_true l3, decide_eq_true l2, el]
  rfl
def notSig (d : D) : Bool := match d with
  | .str s => !decide (s.cps.toList.headD 0 ∈ SIG2.cps.toList)
  | _ => false
theorem sig2_eq : ∀ c, decide (c ∈ SIG2.cps.toList) = decide (c ∈ SIG.cps.toList) := by
  intro c
  have e : SIG2.cps.toList = SIG.cps.toList := by decide +kernel
  rw [e]
theorem notSig_len : ∀ (l : List Nat), (((l.map fun c => D.str ⟨#[c]⟩).filter notSig).map id).length = 0 ↔ (l.all fun c => decide (c ∈ SIG.cps.toList)) = true := by
  intro l
  rw [List.map_id, List.length_eq_zero_iff, List.filter_eq_nil_iff, List.all_eq_true]
  constructor
  · intro h c hc
    have q := h _ (List.mem_map.mpr ⟨c, hc, rfl⟩)
    rw [← sig2_eq]
    simpa [notSig] using q
  · intro h d hd
    obtain ⟨c, hc, rfl⟩ := List.mem_map.mp hd
    have q := h c hc
    rw [← sig2_eq] at q
    simpa [notSig] using q

theorem ok__law_due (T : Tx K mg A) : FnOk P w K mg base (L2.CX P w) 1 A.a__law_due A.f__law_due ["item"] (spD K 1 sp__law_due) := by
  refine fn_okD T.F__law_due sc__law_due (by decide) (fun cdv A0 outer s H E g hK hr cy => ?_)
  refine ⟨_, _, (dss_cons (ds_asg 1 de_str sc__law_due.nd)
    (dss_cons (ds_if (DW.dt (dw_or (dt_not (dt_tru cy (de_isi cy (by rfl) T.m_isinstance (da_cons (de_var 0) (da_cons (de_ty (n := "str") (by rfl) T.m_str (by decide +kernel)) da_nil))))) (dw_or (dt_eq cy (de_len cy (by rfl) T.m_len (de_var 0)) de_int) (dw_or1 (dt_gt cy (de_len cy (by rfl) T.m_len (de_var 0)) de_int))))) (dss_one (ds_ret de_bl)) dss_nil)
    (dss_cons (ds_asgLc 2 cy (own := [("sign", 3)]) sc__law_due.nd (di_any cy (de_var 0)) (blkOk_by (own := [("sign", 3)]) (N := N__law_due) (sc := defScope s__law_due) (by decide +kernel)) (fun _ _ _ _ _ cy => (dg_name 3 sc__law_due.nd)) (fun _ _ _ _ _ cy => (dts_one (dt_notin cy (de_var 3) (de_add cy (de_var 1) de_str)))) (fun _ _ _ _ _ cy => (de_var 3)))
    (dss_one (ds_ret (de_and (de_eq cy (de_len cy (by rfl) T.m_len (de_var 2)) de_int) (de_one (de_in cy (de_item cy (de_var 0) de_int) (de_var 1))))))))), fun rs Q Ex hl h => ?_⟩
  obtain ⟨d, rfl, ha, h⟩ := h
  cases d with
  | str s =>
    simp -dsimp only [↓W_var, ↓W_var1, ↓W_var2, ↓W_var3, ↓W_c, ↓W_frz, ↓W_frz1, ↓W_frz2, ↓W_frz3, ↓W_frz4, ↓W_op, ↓W_call, ↓W_fn, ↓W_fn0, ↓W_fnK, ↓W_nil, ↓W_cons, ↓W_add1, ↓W_add2, ↓W_add3, ↓W_add4, ↓W_add5, ↓W_add6, ↓W_add7, ↓W_int, ↓W_int0, ↓W_mul1, ↓W_mul2, ↓W_eq1, ↓W_eq2, ↓W_eq3, ↓W_eq4, ↓W_ne1, ↓W_ne2, ↓W_ne3, ↓W_in1, ↓W_in2, ↓W_in3, ↓W_in4, ↓W_in5, ↓W_is1, ↓W_is2, ↓W_at, ↓W_atS, ↓W_ix1, ↓W_ix2, ↓W_ix3, ↓W_ix4, ↓W_sl, ↓W_on, ↓W_os, ↓W_part, ↓W_sl1, ↓W_sl2, ↓W_sl3, ↓W_sl4, ↓W_len1, ↓W_len2, ↓W_len3, ↓W_len4, ↓W_abs, ↓W_intf, ↓W_strf, ↓W_list1, ↓W_list2, ↓W_list3, ↓W_tup1, ↓W_tup2, ↓W_tup3, ↓W_max, ↓W_min, ↓W_allK, ↓W_all1, ↓W_isi1, ↓W_isi2, ↓W_k_ns, ↓W_k_bs, ↓W_k_is, ↓W_k_ss, ↓W_k_ts, ↓W_k_ls, ↓W_k_nb, ↓W_k_bb, ↓W_k_ib, ↓W_k_sb, ↓W_k_tb, ↓W_k_lb, ↓W_k_ni, ↓W_k_bi, ↓W_k_ii, ↓W_k_si, ↓W_k_ti, ↓W_k_li, ↓W_k_nt, ↓W_k_bt, ↓W_k_it, ↓W_k_st, ↓W_k_tt, ↓W_k_lt, ↓W_k_nl, ↓W_k_bl, ↓W_k_il, ↓W_k_sl, ↓W_k_tl, ↓W_k_ll, ↓W_valsK, ↓W_etup, ↓W_elst, ↓W_vals0, ↓W_vals1, ↓W_bool, ↓W_bool1, ↓W_tand, ↓W_tor, ↓W_tnot, ↓W_tru, ↓W_tru1, ↓W_tru2, ↓W_tru3, ↓W_tru4, ↓W_tru5, ↓W_tru6, ↓W_tru7, ↓W_bo, ↓W_eand, ↓W_eor, ↓W_enot, ↓W_ink, ↓W_eneg, ↓W_snil, ↓W_seq, ↓W_asg, ↓W_asg1, ↓W_asg2, ↓W_asg3, ↓W_ret, ↓W_hand1, ↓W_hand2, ↓W_hand3, ↓W_hand4, ↓W_expr, ↓W_if, ↓W_for, ↓W_any, ↓W_it1, ↓W_it2, ↓W_it3, ↓W_rg1, ↓W_lc, ↓W_bn, ↓W_yes, ↓W_ownK, ↓W_mut, ↓W_app, ↓W_ins, ↓W_setK, ↓W_stK, ↓W_setIx, ↓W_strK, ↓W_upper, ↓W_join1, ↓W_start, ↓W_slot1, ↓W_slot2, ↓W_arg1, ↓W_arg2, ↓W_sFrz, ↓W_strb, endsD, wipeE, List.foldr_cons, List.foldr_nil, List.length_cons, List.length_nil, List.map_cons, List.map_nil, List.cons_append, List.nil_append, List.append_nil, List.replicate, List.getElem?_cons_zero, List.getElem?_cons_succ, List.getElem?_nil, List.set_cons_zero, List.set_cons_succ, Nat.reduceAdd, Nat.reduceSub, Nat.zero_add, if_true, if_false, Bool.false_eq_true, Bool.not_true, Bool.not_false, true_and, and_true, List.forall_mem_cons, List.mem_cons, List.not_mem_nil, or_false, forall_eq_or_imp, forall_eq, false_and, and_false, implies_true, false_or, Option.map_some, Option.map_none, ite_self, Bool.and_true, Bool.true_and, Bool.and_false, Bool.false_and, List.forall_mem_nil, decide_true, decide_false, isNonD, signsD]
    have l1 : s.length ≤ 5000 := ha
    refine ⟨lim_of (by omega), iteB (fun c => ?_) (fun c => ?_)⟩
    · have e : isNameD (.str s) = false := by
        have := of_decide_eq_true c
        have : ¬ 0 < s.length := by omega
        simp [isNameD, isNameS, this]
      rw [e] at h
      exact h
    refine ⟨lim_of (by omega), iteB (fun c2 => ?_) (fun c2 => ?_)⟩
    · have e : isNameD (.str s) = false := by
        have := of_decide_eq_true c2
        have : ¬ s.length ≤ 8 := by omega
        simp [isNameD, isNameS, this]
      rw [e] at h
      exact h
    have l2 : s.length ≤ 8 := by
      have := of_decide_eq_false c2
      omega
    have l3 : 0 < s.length := by
      have := of_decide_eq_false c
      omega
    obtain ⟨c0, l, el⟩ := first_of l3
    have e := isn_eq l3 l2 el
    refine ⟨nn_of (by rw [List.length_map, chars_len]; omega), lcW_map notSig id _ _ (fun d hd Y N hy hn => ?_) ?_⟩
    · obtain ⟨c, hc, rfl⟩ := List.mem_map.mp hd
      simp -dsimp only [↓W_var, ↓W_var1, ↓W_var2, ↓W_var3, ↓W_c, ↓W_frz, ↓W_frz1, ↓W_frz2, ↓W_frz3, ↓W_frz4, ↓W_op, ↓W_call, ↓W_fn, ↓W_fn0, ↓W_fnK, ↓W_nil, ↓W_cons, ↓W_add1, ↓W_add2, ↓W_add3, ↓W_add4, ↓W_add5, ↓W_add6, ↓W_add7, ↓W_int, ↓W_int0, ↓W_mul1, ↓W_mul2, ↓W_eq1, ↓W_eq2, ↓W_eq3, ↓W_eq4, ↓W_ne1, ↓W_ne2, ↓W_ne3, ↓W_in1, ↓W_in2, ↓W_in3, ↓W_in4, ↓W_in5, ↓W_is1, ↓W_is2, ↓W_at, ↓W_atS, ↓W_ix1, ↓W_ix2, ↓W_ix3, ↓W_ix4, ↓W_sl, ↓W_on, ↓W_os, ↓W_part, ↓W_sl1, ↓W_sl2, ↓W_sl3, ↓W_sl4, ↓W_len1, ↓W_len2, ↓W_len3, ↓W_len4, ↓W_abs, ↓W_intf, ↓W_strf, ↓W_list1, ↓W_list2, ↓W_list3, ↓W_tup1, ↓W_tup2, ↓W_tup3, ↓W_max, ↓W_min, ↓W_allK, ↓W_all1, ↓W_isi1, ↓W_isi2, ↓W_k_ns, ↓W_k_bs, ↓W_k_is, ↓W_k_ss, ↓W_k_ts, ↓W_k_ls, ↓W_k_nb, ↓W_k_bb, ↓W_k_ib, ↓W_k_sb, ↓W_k_tb, ↓W_k_lb, ↓W_k_ni, ↓W_k_bi, ↓W_k_ii, ↓W_k_si, ↓W_k_ti, ↓W_k_li, ↓W_k_nt, ↓W_k_bt, ↓W_k_it, ↓W_k_st, ↓W_k_tt, ↓W_k_lt, ↓W_k_nl, ↓W_k_bl, ↓W_k_il, ↓W_k_sl, ↓W_k_tl, ↓W_k_ll, ↓W_valsK, ↓W_etup, ↓W_elst, ↓W_vals0, ↓W_vals1, ↓W_bool, ↓W_bool1, ↓W_tand, ↓W_tor, ↓W_tnot, ↓W_tru, ↓W_tru1, ↓W_tru2, ↓W_tru3, ↓W_tru4, ↓W_tru5, ↓W_tru6, ↓W_tru7, ↓W_bo, ↓W_eand, ↓W_eor, ↓W_enot, ↓W_ink, ↓W_eneg, ↓W_snil, ↓W_seq, ↓W_asg, ↓W_asg1, ↓W_asg2, ↓W_asg3, ↓W_ret, ↓W_hand1, ↓W_hand2, ↓W_hand3, ↓W_hand4, ↓W_expr, ↓W_if, ↓W_for, ↓W_any, ↓W_it1, ↓W_it2, ↓W_it3, ↓W_rg1, ↓W_lc, ↓W_bn, ↓W_yes, ↓W_ownK, ↓W_mut, ↓W_app, ↓W_ins, ↓W_setK, ↓W_stK, ↓W_setIx, ↓W_strK, ↓W_upper, ↓W_join1, ↓W_start, ↓W_slot1, ↓W_slot2, ↓W_arg1, ↓W_arg2, ↓W_sFrz, ↓W_strb, endsD, wipeE, List.foldr_cons, List.foldr_nil, List.length_cons, List.length_nil, List.map_cons, List.map_nil, List.cons_append, List.nil_append, List.append_nil, List.replicate, List.getElem?_cons_zero, List.getElem?_cons_succ, List.getElem?_nil, List.set_cons_zero, List.set_cons_succ, Nat.reduceAdd, Nat.reduceSub, Nat.zero_add, if_true, if_false, Bool.false_eq_true, Bool.not_true, Bool.not_false, true_and, and_true, List.forall_mem_cons, List.mem_cons, List.not_mem_nil, or_false, forall_eq_or_imp, forall_eq, false_and, and_false, implies_true, false_or, Option.map_some, Option.map_none, ite_self, Bool.and_true, Bool.true_and, Bool.and_false, Bool.false_and, List.forall_mem_nil, decide_true, decide_false, isNonD, signsD]
      refine ⟨lim_of (by decide), iteB (fun f => ?_) (fun f => ?_)⟩
      · exact ⟨_, rfl, hy f⟩
      · exact hn f
    · simp -dsimp only [↓W_var, ↓W_var1, ↓W_var2, ↓W_var3, ↓W_c, ↓W_frz, ↓W_frz1, ↓W_frz2, ↓W_frz3, ↓W_frz4, ↓W_op, ↓W_call, ↓W_fn, ↓W_fn0, ↓W_fnK, ↓W_nil, ↓W_cons, ↓W_add1, ↓W_add2, ↓W_add3, ↓W_add4, ↓W_add5, ↓W_add6, ↓W_add7, ↓W_int, ↓W_int0, ↓W_mul1, ↓W_mul2, ↓W_eq1, ↓W_eq2, ↓W_eq3, ↓W_eq4, ↓W_ne1, ↓W_ne2, ↓W_ne3, ↓W_in1, ↓W_in2, ↓W_in3, ↓W_in4, ↓W_in5, ↓W_is1, ↓W_is2, ↓W_at, ↓W_atS, ↓W_ix1, ↓W_ix2, ↓W_ix3, ↓W_ix4, ↓W_sl, ↓W_on, ↓W_os, ↓W_part, ↓W_sl1, ↓W_sl2, ↓W_sl3, ↓W_sl4, ↓W_len1, ↓W_len2, ↓W_len3, ↓W_len4, ↓W_abs, ↓W_intf, ↓W_strf, ↓W_list1, ↓W_list2, ↓W_list3, ↓W_tup1, ↓W_tup2, ↓W_tup3, ↓W_max, ↓W_min, ↓W_allK, ↓W_all1, ↓W_isi1, ↓W_isi2, ↓W_k_ns, ↓W_k_bs, ↓W_k_is, ↓W_k_ss, ↓W_k_ts, ↓W_k_ls, ↓W_k_nb, ↓W_k_bb, ↓W_k_ib, ↓W_k_sb, ↓W_k_tb, ↓W_k_lb, ↓W_k_ni, ↓W_k_bi, ↓W_k_ii, ↓W_k_si, ↓W_k_ti, ↓W_k_li, ↓W_k_nt, ↓W_k_bt, ↓W_k_it, ↓W_k_st, ↓W_k_tt, ↓W_k_lt, ↓W_k_nl, ↓W_k_bl, ↓W_k_il, ↓W_k_sl, ↓W_k_tl, ↓W_k_ll, ↓W_valsK, ↓W_etup, ↓W_elst, ↓W_vals0, ↓W_vals1, ↓W_bool, ↓W_bool1, ↓W_tand, ↓W_tor, ↓W_tnot, ↓W_tru, ↓W_tru1, ↓W_tru2, ↓W_tru3, ↓W_tru4, ↓W_tru5, ↓W_tru6, ↓W_tru7, ↓W_bo, ↓W_eand, ↓W_eor, ↓W_enot, ↓W_ink, ↓W_eneg, ↓W_snil, ↓W_seq, ↓W_asg, ↓W_asg1, ↓W_asg2, ↓W_asg3, ↓W_ret, ↓W_hand1, ↓W_hand2, ↓W_hand3, ↓W_hand4, ↓W_expr, ↓W_if, ↓W_for, ↓W_any, ↓W_it1, ↓W_it2, ↓W_it3, ↓W_rg1, ↓W_lc, ↓W_bn, ↓W_yes, ↓W_ownK, ↓W_mut, ↓W_app, ↓W_ins, ↓W_setK, ↓W_stK, ↓W_setIx, ↓W_strK, ↓W_upper, ↓W_join1, ↓W_start, ↓W_slot1, ↓W_slot2, ↓W_arg1, ↓W_arg2, ↓W_sFrz, ↓W_strb, endsD, wipeE, List.foldr_cons, List.foldr_nil, List.length_cons, List.length_nil, List.map_cons, List.map_nil, List.cons_append, List.nil_append, List.append_nil, List.replicate, List.getElem?_cons_zero, List.getElem?_cons_succ, List.getElem?_nil, List.set_cons_zero, List.set_cons_succ, Nat.reduceAdd, Nat.reduceSub, Nat.zero_add, if_true, if_false, Bool.false_eq_true, Bool.not_true, Bool.not_false, true_and, and_true, List.forall_mem_cons, List.mem_cons, List.not_mem_nil, or_false, forall_eq_or_imp, forall_eq, false_and, and_false, implies_true, false_or, Option.map_some, Option.map_none, ite_self, Bool.and_true, Bool.true_and, Bool.and_false, Bool.false_and, List.forall_mem_nil, decide_true, decide_false, isNonD, signsD]
      refine iteB (fun f => ?_) (fun f => ?_)
      · have f1 := of_decide_eq_true f
        have f2 := (notSig_len s.cps.toList).mp (by omega)
        refine ⟨lim_of (by omega), c0, by rw [el]; exact atI_nat (j := 0) rfl, ?_⟩
        simp -dsimp only [↓W_var, ↓W_var1, ↓W_var2, ↓W_var3, ↓W_c, ↓W_frz, ↓W_frz1, ↓W_frz2, ↓W_frz3, ↓W_frz4, ↓W_op, ↓W_call, ↓W_fn, ↓W_fn0, ↓W_fnK, ↓W_nil, ↓W_cons, ↓W_add1, ↓W_add2, ↓W_add3, ↓W_add4, ↓W_add5, ↓W_add6, ↓W_add7, ↓W_int, ↓W_int0, ↓W_mul1, ↓W_mul2, ↓W_eq1, ↓W_eq2, ↓W_eq3, ↓W_eq4, ↓W_ne1, ↓W_ne2, ↓W_ne3, ↓W_in1, ↓W_in2, ↓W_in3, ↓W_in4, ↓W_in5, ↓W_is1, ↓W_is2, ↓W_at, ↓W_atS, ↓W_ix1, ↓W_ix2, ↓W_ix3, ↓W_ix4, ↓W_sl, ↓W_on, ↓W_os, ↓W_part, ↓W_sl1, ↓W_sl2, ↓W_sl3, ↓W_sl4, ↓W_len1, ↓W_len2, ↓W_len3, ↓W_len4, ↓W_abs, ↓W_intf, ↓W_strf, ↓W_list1, ↓W_list2, ↓W_list3, ↓W_tup1, ↓W_tup2, ↓W_tup3, ↓W_max, ↓W_min, ↓W_allK, ↓W_all1, ↓W_isi1, ↓W_isi2, ↓W_k_ns, ↓W_k_bs, ↓W_k_is, ↓W_k_ss, ↓W_k_ts, ↓W_k_ls, ↓W_k_nb, ↓W_k_bb, ↓W_k_ib, ↓W_k_sb, ↓W_k_tb, ↓W_k_lb, ↓W_k_ni, ↓W_k_bi, ↓W_k_ii, ↓W_k_si, ↓W_k_ti, ↓W_k_li, ↓W_k_nt, ↓W_k_bt, ↓W_k_it, ↓W_k_st, ↓W_k_tt, ↓W_k_lt, ↓W_k_nl, ↓W_k_bl, ↓W_k_il, ↓W_k_sl, ↓W_k_tl, ↓W_k_ll, ↓W_valsK, ↓W_etup, ↓W_elst, ↓W_vals0, ↓W_vals1, ↓W_bool, ↓W_bool1, ↓W_tand, ↓W_tor, ↓W_tnot, ↓W_tru, ↓W_tru1, ↓W_tru2, ↓W_tru3, ↓W_tru4, ↓W_tru5, ↓W_tru6, ↓W_tru7, ↓W_bo, ↓W_eand, ↓W_eor, ↓W_enot, ↓W_ink, ↓W_eneg, ↓W_snil, ↓W_seq, ↓W_asg, ↓W_asg1, ↓W_asg2, ↓W_asg3, ↓W_ret, ↓W_hand1, ↓W_hand2, ↓W_hand3, ↓W_hand4, ↓W_expr, ↓W_if, ↓W_for, ↓W_any, ↓W_it1, ↓W_it2, ↓W_it3, ↓W_rg1, ↓W_lc, ↓W_bn, ↓W_yes, ↓W_ownK, ↓W_mut, ↓W_app, ↓W_ins, ↓W_setK, ↓W_stK, ↓W_setIx, ↓W_strK, ↓W_upper, ↓W_join1, ↓W_start, ↓W_slot1, ↓W_slot2, ↓W_arg1, ↓W_arg2, ↓W_sFrz, ↓W_strb, endsD, wipeE, List.foldr_cons, List.foldr_nil, List.length_cons, List.length_nil, List.map_cons, List.map_nil, List.cons_append, List.nil_append, List.append_nil, List.replicate, List.getElem?_cons_zero, List.getElem?_cons_succ, List.getElem?_nil, List.set_cons_zero, List.set_cons_succ, Nat.reduceAdd, Nat.reduceSub, Nat.zero_add, if_true, if_false, Bool.false_eq_true, Bool.not_true, Bool.not_false, true_and, and_true, List.forall_mem_cons, List.mem_cons, List.not_mem_nil, or_false, forall_eq_or_imp, forall_eq, false_and, and_false, implies_true, false_or, Option.map_some, Option.map_none, ite_self, Bool.and_true, Bool.true_and, Bool.and_false, Bool.false_and, List.forall_mem_nil, decide_true, decide_false, isNonD, signsD]
        rw [e, f2, Bool.and_true] at h
        exact h
      · have f1 := of_decide_eq_false f
        have f2 : (s.cps.toList.all fun c => decide (c ∈ SIG.cps.toList)) = false := by
          refine Bool.eq_false_iff.mpr fun z => f1 ?_
          have := (notSig_len s.cps.toList).mpr z
          omega
        rw [e, f2, Bool.and_false] at h
        exact h
  | non => 
    simp -dsimp only [↓W_var, ↓W_var1, ↓W_var2, ↓W_var3, ↓W_c, ↓W_frz, ↓W_frz1, ↓W_frz2, ↓W_frz3, ↓W_frz4, ↓W_op, ↓W_call, ↓W_fn, ↓W_fn0, ↓W_fnK, ↓W_nil, ↓W_cons, ↓W_add1, ↓W_add2, ↓W_add3, ↓W_add4, ↓W_add5, ↓W_add6, ↓W_add7, ↓W_int, ↓W_int0, ↓W_mul1, ↓W_mul2, ↓W_eq1, ↓W_eq2, ↓W_eq3, ↓W_eq4, ↓W_ne1, ↓W_ne2, ↓W_ne3, ↓W_in1, ↓W_in2, ↓W_in3, ↓W_in4, ↓W_in5, ↓W_is1, ↓W_is2, ↓W_at, ↓W_atS, ↓W_ix1, ↓W_ix2, ↓W_ix3, ↓W_ix4, ↓W_sl, ↓W_on, ↓W_os, ↓W_part, ↓W_sl1, ↓W_sl2, ↓W_sl3, ↓W_sl4, ↓W_len1, ↓W_len2, ↓W_len3, ↓W_len4, ↓W_abs, ↓W_intf, ↓W_strf, ↓W_list1, ↓W_list2, ↓W_list3, ↓W_tup1, ↓W_tup2, ↓W_tup3, ↓W_max, ↓W_min, ↓W_allK, ↓W_all1, ↓W_isi1, ↓W_isi2, ↓W_k_ns, ↓W_k_bs, ↓W_k_is, ↓W_k_ss, ↓W_k_ts, ↓W_k_ls, ↓W_k_nb, ↓W_k_bb, ↓W_k_ib, ↓W_k_sb, ↓W_k_tb, ↓W_k_lb, ↓W_k_ni, ↓W_k_bi, ↓W_k_ii, ↓W_k_si, ↓W_k_ti, ↓W_k_li, ↓W_k_nt, ↓W_k_bt, ↓W_k_it, ↓W_k_st, ↓W_k_tt, ↓W_k_lt, ↓W_k_nl, ↓W_k_bl, ↓W_k_il, ↓W_k_sl, ↓W_k_tl, ↓W_k_ll, ↓W_valsK, ↓W_etup, ↓W_elst, ↓W_vals0, ↓W_vals1, ↓W_bool, ↓W_bool1, ↓W_tand, ↓W_tor, ↓W_tnot, ↓W_tru, ↓W_tru1, ↓W_tru2, ↓W_tru3, ↓W_tru4, ↓W_tru5, ↓W_tru6, ↓W_tru7, ↓W_bo, ↓W_eand, ↓W_eor, ↓W_enot, ↓W_ink, ↓W_eneg, ↓W_snil, ↓W_seq, ↓W_asg, ↓W_asg1, ↓W_asg2, ↓W_asg3, ↓W_ret, ↓W_hand1, ↓W_hand2, ↓W_hand3, ↓W_hand4, ↓W_expr, ↓W_if, ↓W_for, ↓W_any, ↓W_it1, ↓W_it2, ↓W_it3, ↓W_rg1, ↓W_lc, ↓W_bn, ↓W_yes, ↓W_ownK, ↓W_mut, ↓W_app, ↓W_ins, ↓W_setK, ↓W_stK, ↓W_setIx, ↓W_strK, ↓W_upper, ↓W_join1, ↓W_start, ↓W_slot1, ↓W_slot2, ↓W_arg1, ↓W_arg2, ↓W_sFrz, ↓W_strb, endsD, wipeE, List.foldr_cons, List.foldr_nil, List.length_cons, List.length_nil, List.map_cons, List.map_nil, List.cons_append, List.nil_append, List.append_nil, List.replicate, List.getElem?_cons_zero, List.getElem?_cons_succ, List.getElem?_nil, List.set_cons_zero, List.set_cons_succ, Nat.reduceAdd, Nat.reduceSub, Nat.zero_add, if_true, if_false, Bool.false_eq_true, Bool.not_true, Bool.not_false, true_and, and_true, List.forall_mem_cons, List.mem_cons, List.not_mem_nil, or_false, forall_eq_or_imp, forall_eq, false_and, and_false, implies_true, false_or, Option.map_some, Option.map_none, ite_self, Bool.and_true, Bool.true_and, Bool.and_false, Bool.false_and, List.forall_mem_nil, decide_true, decide_false, isNonD, signsD]
    exact h
  | bl b => 
    simp -dsimp only [↓W_var, ↓W_var1, ↓W_var2, ↓W_var3, ↓W_c, ↓W_frz, ↓W_frz1, ↓W_frz2, ↓W_frz3, ↓W_frz4, ↓W_op, ↓W_call, ↓W_fn, ↓W_fn0, ↓W_fnK, ↓W_nil, ↓W_cons, ↓W_add1, ↓W_add2, ↓W_add3, ↓W_add4, ↓W_add5, ↓W_add6, ↓W_add7, ↓W_int, ↓W_int0, ↓W_mul1, ↓W_mul2, ↓W_eq1, ↓W_eq2, ↓W_eq3, ↓W_eq4, ↓W_ne1, ↓W_ne2, ↓W_ne3, ↓W_in1, ↓W_in2, ↓W_in3, ↓W_in4, ↓W_in5, ↓W_is1, ↓W_is2, ↓W_at, ↓W_atS, ↓W_ix1, ↓W_ix2, ↓W_ix3, ↓W_ix4, ↓W_sl, ↓W_on, ↓W_os, ↓W_part, ↓W_sl1, ↓W_sl2, ↓W_sl3, ↓W_sl4, ↓W_len1, ↓W_len2, ↓W_len3, ↓W_len4, ↓W_abs, ↓W_intf, ↓W_strf, ↓W_list1, ↓W_list2, ↓W_list3, ↓W_tup1, ↓W_tup2, ↓W_tup3, ↓W_max, ↓W_min, ↓W_allK, ↓W_all1, ↓W_isi1, ↓W_isi2, ↓W_k_ns, ↓W_k_bs, ↓W_k_is, ↓W_k_ss, ↓W_k_ts, ↓W_k_ls, ↓W_k_nb, ↓W_k_bb, ↓W_k_ib, ↓W_k_sb, ↓W_k_tb, ↓W_k_lb, ↓W_k_ni, ↓W_k_bi, ↓W_k_ii, ↓W_k_si, ↓W_k_ti, ↓W_k_li, ↓W_k_nt, ↓W_k_bt, ↓W_k_it, ↓W_k_st, ↓W_k_tt, ↓W_k_lt, ↓W_k_nl, ↓W_k_bl, ↓W_k_il, ↓W_k_sl, ↓W_k_tl, ↓W_k_ll, ↓W_valsK, ↓W_etup, ↓W_elst, ↓W_vals0, ↓W_vals1, ↓W_bool, ↓W_bool1, ↓W_tand, ↓W_tor, ↓W_tnot, ↓W_tru, ↓W_tru1, ↓W_tru2, ↓W_tru3, ↓W_tru4, ↓W_tru5, ↓W_tru6, ↓W_tru7, ↓W_bo, ↓W_eand, ↓W_eor, ↓W_enot, ↓W_ink, ↓W_eneg, ↓W_snil, ↓W_seq, ↓W_asg, ↓W_asg1, ↓W_asg2, ↓W_asg3, ↓W_ret, ↓W_hand1, ↓W_hand2, ↓W_hand3, ↓W_hand4, ↓W_expr, ↓W_if, ↓W_for, ↓W_any, ↓W_it1, ↓W_it2, ↓W_it3, ↓W_rg1, ↓W_lc, ↓W_bn, ↓W_yes, ↓W_ownK, ↓W_mut, ↓W_app, ↓W_ins, ↓W_setK, ↓W_stK, ↓W_setIx, ↓W_strK, ↓W_upper, ↓W_join1, ↓W_start, ↓W_slot1, ↓W_slot2, ↓W_arg1, ↓W_arg2, ↓W_sFrz, ↓W_strb, endsD, wipeE, List.foldr_cons, List.foldr_nil, List.length_cons, List.length_nil, List.map_cons, List.map_nil, List.cons_append, List.nil_append, List.append_nil, List.replicate, List.getElem?_cons_zero, List.getElem?_cons_succ, List.getElem?_nil, List.set_cons_zero, List.set_cons_succ, Nat.reduceAdd, Nat.reduceSub, Nat.zero_add, if_true, if_false, Bool.false_eq_true, Bool.not_true, Bool.not_false, true_and, and_true, List.forall_mem_cons, List.mem_cons, List.not_mem_nil, or_false, forall_eq_or_imp, forall_eq, false_and, and_false, implies_true, false_or, Option.map_some, Option.map_none, ite_self, Bool.and_true, Bool.true_and, Bool.and_false, Bool.false_and, List.forall_mem_nil, decide_true, decide_false, isNonD, signsD]
    exact h
  | int i => 
    simp -dsimp only [↓W_var, ↓W_var1, ↓W_var2, ↓W_var3, ↓W_c, ↓W_frz, ↓W_frz1, ↓W_frz2, ↓W_frz3, ↓W_frz4, ↓W_op, ↓W_call, ↓W_fn, ↓W_fn0, ↓W_fnK, ↓W_nil, ↓W_cons, ↓W_add1, ↓W_add2, ↓W_add3, ↓W_add4, ↓W_add5, ↓W_add6, ↓W_add7, ↓W_int, ↓W_int0, ↓W_mul1, ↓W_mul2, ↓W_eq1, ↓W_eq2, ↓W_eq3, ↓W_eq4, ↓W_ne1, ↓W_ne2, ↓W_ne3, ↓W_in1, ↓W_in2, ↓W_in3, ↓W_in4, ↓W_in5, ↓W_is1, ↓W_is2, ↓W_at, ↓W_atS, ↓W_ix1, ↓W_ix2, ↓W_ix3, ↓W_ix4, ↓W_sl, ↓W_on, ↓W_os, ↓W_part, ↓W_sl1, ↓W_sl2, ↓W_sl3, ↓W_sl4, ↓W_len1, ↓W_len2, ↓W_len3, ↓W_len4, ↓W_abs, ↓W_intf, ↓W_strf, ↓W_list1, ↓W_list2, ↓W_list3, ↓W_tup1, ↓W_tup2, ↓W_tup3, ↓W_max, ↓W_min, ↓W_allK, ↓W_all1, ↓W_isi1, ↓W_isi2, ↓W_k_ns, ↓W_k_bs, ↓W_k_is, ↓W_k_ss, ↓W_k_ts, ↓W_k_ls, ↓W_k_nb, ↓W_k_bb, ↓W_k_ib, ↓W_k_sb, ↓W_k_tb, ↓W_k_lb, ↓W_k_ni, ↓W_k_bi, ↓W_k_ii, ↓W_k_si, ↓W_k_ti, ↓W_k_li, ↓W_k_nt, ↓W_k_bt, ↓W_k_it, ↓W_k_st, ↓W_k_tt, ↓W_k_lt, ↓W_k_nl, ↓W_k_bl, ↓W_k_il, ↓W_k_sl, ↓W_k_tl, ↓W_k_ll, ↓W_valsK, ↓W_etup, ↓W_elst, ↓W_vals0, ↓W_vals1, ↓W_bool, ↓W_bool1, ↓W_tand, ↓W_tor, ↓W_tnot, ↓W_tru, ↓W_tru1, ↓W_tru2, ↓W_tru3, ↓W_tru4, ↓W_tru5, ↓W_tru6, ↓W_tru7, ↓W_bo, ↓W_eand, ↓W_eor, ↓W_enot, ↓W_ink, ↓W_eneg, ↓W_snil, ↓W_seq, ↓W_asg, ↓W_asg1, ↓W_asg2, ↓W_asg3, ↓W_ret, ↓W_hand1, ↓W_hand2, ↓W_hand3, ↓W_hand4, ↓W_expr, ↓W_if, ↓W_for, ↓W_any, ↓W_it1, ↓W_it2, ↓W_it3, ↓W_rg1, ↓W_lc, ↓W_bn, ↓W_yes, ↓W_ownK, ↓W_mut, ↓W_app, ↓W_ins, ↓W_setK, ↓W_stK, ↓W_setIx, ↓W_strK, ↓W_upper, ↓W_join1, ↓W_start, ↓W_slot1, ↓W_slot2, ↓W_arg1, ↓W_arg2, ↓W_sFrz, ↓W_strb, endsD, wipeE, List.foldr_cons, List.foldr_nil, List.length_cons, List.length_nil, List.map_cons, List.map_nil, List.cons_append, List.nil_append, List.append_nil, List.replicate, List.getElem?_cons_zero, List.getElem?_cons_succ, List.getElem?_nil, List.set_cons_zero, List.set_cons_succ, Nat.reduceAdd, Nat.reduceSub, Nat.zero_add, if_true, if_false, Bool.false_eq_true, Bool.not_true, Bool.not_false, true_and, and_true, List.forall_mem_cons, List.mem_cons, List.not_mem_nil, or_false, forall_eq_or_imp, forall_eq, false_and, and_false, implies_true, false_or, Option.map_some, Option.map_none, ite_self, Bool.and_true, Bool.true_and, Bool.and_false, Bool.false_and, List.forall_mem_nil, decide_true, decide_false, isNonD, signsD]
    exact h
  | tup ds => 
    simp -dsimp only [↓W_var, ↓W_var1, ↓W_var2, ↓W_var3, ↓W_c, ↓W_frz, ↓W_frz1, ↓W_frz2, ↓W_frz3, ↓W_frz4, ↓W_op, ↓W_call, ↓W_fn, ↓W_fn0, ↓W_fnK, ↓W_nil, ↓W_cons, ↓W_add1, ↓W_add2, ↓W_add3, ↓W_add4, ↓W_add5, ↓W_add6, ↓W_add7, ↓W_int, ↓W_int0, ↓W_mul1, ↓W_mul2, ↓W_eq1, ↓W_eq2, ↓W_eq3, ↓W_eq4, ↓W_ne1, ↓W_ne2, ↓W_ne3, ↓W_in1, ↓W_in2, ↓W_in3, ↓W_in4, ↓W_in5, ↓W_is1, ↓W_is2, ↓W_at, ↓W_atS, ↓W_ix1, ↓W_ix2, ↓W_ix3, ↓W_ix4, ↓W_sl, ↓W_on, ↓W_os, ↓W_part, ↓W_sl1, ↓W_sl2, ↓W_sl3, ↓W_sl4, ↓W_len1, ↓W_len2, ↓W_len3, ↓W_len4, ↓W_abs, ↓W_intf, ↓W_strf, ↓W_list1, ↓W_list2, ↓W_list3, ↓W_tup1, ↓W_tup2, ↓W_tup3, ↓W_max, ↓W_min, ↓W_allK, ↓W_all1, ↓W_isi1, ↓W_isi2, ↓W_k_ns, ↓W_k_bs, ↓W_k_is, ↓W_k_ss, ↓W_k_ts, ↓W_k_ls, ↓W_k_nb, ↓W_k_bb, ↓W_k_ib, ↓W_k_sb, ↓W_k_tb, ↓W_k_lb, ↓W_k_ni, ↓W_k_bi, ↓W_k_ii, ↓W_k_si, ↓W_k_ti, ↓W_k_li, ↓W_k_nt, ↓W_k_bt, ↓W_k_it, ↓W_k_st, ↓W_k_tt, ↓W_k_lt, ↓W_k_nl, ↓W_k_bl, ↓W_k_il, ↓W_k_sl, ↓W_k_tl, ↓W_k_ll, ↓W_valsK, ↓W_etup, ↓W_elst, ↓W_vals0, ↓W_vals1, ↓W_bool, ↓W_bool1, ↓W_tand, ↓W_tor, ↓W_tnot, ↓W_tru, ↓W_tru1, ↓W_tru2, ↓W_tru3, ↓W_tru4, ↓W_tru5, ↓W_tru6, ↓W_tru7, ↓W_bo, ↓W_eand, ↓W_eor, ↓W_enot, ↓W_ink, ↓W_eneg, ↓W_snil, ↓W_seq, ↓W_asg, ↓W_asg1, ↓W_asg2, ↓W_asg3, ↓W_ret, ↓W_hand1, ↓W_hand2, ↓W_hand3, ↓W_hand4, ↓W_expr, ↓W_if, ↓W_for, ↓W_any, ↓W_it1, ↓W_it2, ↓W_it3, ↓W_rg1, ↓W_lc, ↓W_bn, ↓W_yes, ↓W_ownK, ↓W_mut, ↓W_app, ↓W_ins, ↓W_setK, ↓W_stK, ↓W_setIx, ↓W_strK, ↓W_upper, ↓W_join1, ↓W_start, ↓W_slot1, ↓W_slot2, ↓W_arg1, ↓W_arg2, ↓W_sFrz, ↓W_strb, endsD, wipeE, List.foldr_cons, List.foldr_nil, List.length_cons, List.length_nil, List.map_cons, List.map_nil, List.cons_append, List.nil_append, List.append_nil, List.replicate, List.getElem?_cons_zero, List.getElem?_cons_succ, List.getElem?_nil, List.set_cons_zero, List.set_cons_succ, Nat.reduceAdd, Nat.reduceSub, Nat.zero_add, if_true, if_false, Bool.false_eq_true, Bool.not_true, Bool.not_false, true_and, and_true, List.forall_mem_cons, List.mem_cons, List.not_mem_nil, or_false, forall_eq_or_imp, forall_eq, false_and, and_false, implies_true, false_or, Option.map_some, Option.map_none, ite_self, Bool.and_true, Bool.true_and, Bool.and_false, Bool.false_and, List.forall_mem_nil, decide_true, decide_false, isNonD, signsD]
    exact h
  | lst ds => 
    simp -dsimp only [↓W_var, ↓W_var1, ↓W_var2, ↓W_var3, ↓W_c, ↓W_frz, ↓W_frz1, ↓W_frz2, ↓W_frz3, ↓W_frz4, ↓W_op, ↓W_call, ↓W_fn, ↓W_fn0, ↓W_fnK, ↓W_nil, ↓W_cons, ↓W_add1, ↓W_add2, ↓W_add3, ↓W_add4, ↓W_add5, ↓W_add6, ↓W_add7, ↓W_int, ↓W_int0, ↓W_mul1, ↓W_mul2, ↓W_eq1, ↓W_eq2, ↓W_eq3, ↓W_eq4, ↓W_ne1, ↓W_ne2, ↓W_ne3, ↓W_in1, ↓W_in2, ↓W_in3, ↓W_in4, ↓W_in5, ↓W_is1, ↓W_is2, ↓W_at, ↓W_atS, ↓W_ix1, ↓W_ix2, ↓W_ix3, ↓W_ix4, ↓W_sl, ↓W_on, ↓W_os, ↓W_part, ↓W_sl1, ↓W_sl2, ↓W_sl3, ↓W_sl4, ↓W_len1, ↓W_len2, ↓W_len3, ↓W_len4, ↓W_abs, ↓W_intf, ↓W_strf, ↓W_list1, ↓W_list2, ↓W_list3, ↓W_tup1, ↓W_tup2, ↓W_tup3, ↓W_max, ↓W_min, ↓W_allK, ↓W_all1, ↓W_isi1, ↓W_isi2, ↓W_k_ns, ↓W_k_bs, ↓W_k_is, ↓W_k_ss, ↓W_k_ts, ↓W_k_ls, ↓W_k_nb, ↓W_k_bb, ↓W_k_ib, ↓W_k_sb, ↓W_k_tb, ↓W_k_lb, ↓W_k_ni, ↓W_k_bi, ↓W_k_ii, ↓W_k_si, ↓W_k_ti, ↓W_k_li, ↓W_k_nt, ↓W_k_bt, ↓W_k_it, ↓W_k_st, ↓W_k_tt, ↓W_k_lt, ↓W_k_nl, ↓W_k_bl, ↓W_k_il, ↓W_k_sl, ↓W_k_tl, ↓W_k_ll, ↓W_valsK, ↓W_etup, ↓W_elst, ↓W_vals0, ↓W_vals1, ↓W_bool, ↓W_bool1, ↓W_tand, ↓W_tor, ↓W_tnot, ↓W_tru, ↓W_tru1, ↓W_tru2, ↓W_tru3, ↓W_tru4, ↓W_tru5, ↓W_tru6, ↓W_tru7, ↓W_bo, ↓W_eand, ↓W_eor, ↓W_enot, ↓W_ink, ↓W_eneg, ↓W_snil, ↓W_seq, ↓W_asg, ↓W_asg1, ↓W_asg2, ↓W_asg3, ↓W_ret, ↓W_hand1, ↓W_hand2, ↓W_hand3, ↓W_hand4, ↓W_expr, ↓W_if, ↓W_for, ↓W_any, ↓W_it1, ↓W_it2, ↓W_it3, ↓W_rg1, ↓W_lc, ↓W_bn, ↓W_yes, ↓W_ownK, ↓W_mut, ↓W_app, ↓W_ins, ↓W_setK, ↓W_stK, ↓W_setIx, ↓W_strK, ↓W_upper, ↓W_join1, ↓W_start, ↓W_slot1, ↓W_slot2, ↓W_arg1, ↓W_arg2, ↓W_sFrz, ↓W_strb, endsD, wipeE, List.foldr_cons, List.foldr_nil, List.length_cons, List.length_nil, List.map_cons, List.map_nil, List.cons_append, List.nil_append, List.append_nil, List.replicate, List.getElem?_cons_zero, List.getElem?_cons_succ, List.getElem?_nil, List.set_cons_zero, List.set_cons_succ, Nat.reduceAdd, Nat.reduceSub, Nat.zero_add, if_true, if_false, Bool.false_eq_true, Bool.not_true, Bool.not_false, true_and, and_true, List.forall_mem_cons, List.mem_cons, List.not_mem_nil, or_false, forall_eq_or_imp, forall_eq, false_and, and_false, implies_true, false_or, Option.map_some, Option.map_none, ite_self, Bool.and_true, Bool.true_and, Bool.and_false, Bool.false_and, List.forall_mem_nil, decide_true, decide_false, isNonD, signsD]
    exact h
  | _ => exact ha.elim


/-- data of this depth, of few items -/
def DeepD : Nat → D → Prop
  | 0, _ => False
  | n + 1, d => match d with
    | .non => True
    | .bl _ => True
    | .int _ => True
    | .str s => s.length ≤ 900
    | .tup ds => ds.length ≤ 1000 ∧ ∀ e ∈ ds, DeepD n e
    | .lst ds => ds.length ≤ 1000 ∧ ∀ e ∈ ds, DeepD n e
    | _ => False
def sp__law_copied : Nat → FD := fun n rs Q _ => ∃ d, rs = [.val d] ∧ DeepD n d ∧ (match d with | .lst ds => Q (.own ds) | d => Q (.val d))
theorem mono__law_copied (n : Nat) : MonoF (sp__law_copied n) := fun rs Q Q' E E' hq he ⟨d, h1, h2, h3⟩ => ⟨d, h1, h2, by
  split at h3
  · exact hq _ h3
  · exact hq _ h3⟩
theorem fnok_no {P : Program} {w : World} {K : PySem.W.Frag} {mg : Str → Option Value} {base : Heap} {CX : CXT} {k n : Nat} {f : Addr} {fd : FuncData} {ps : List Str} {fn : FD} (h : ∀ rs Q E, fn rs Q E → False) : FnOk P w K mg base CX k f fd ps (spD K n fn) :=
  ⟨fun _ _ _ _ ⟨_, _, _, _, _, _, _, z⟩ => (h _ _ _ z).elim, fun _ _ _ _ _ _ _ _ _ _ _ _ _ ⟨_, _, _, _, _, _, _, z⟩ => (h _ _ _ z).elim⟩
theorem copied_of {n : Nat} {d : D} {Q : RV → Prop} {E : Exc → Prop} (h : DeepD n d) (q : ∀ r, (r = .val d ∨ ∃ ds, d = .lst ds ∧ r = .own ds) → Q r) : app (sp__law_copied n) [.val d] Q E := ⟨d, rfl, h, by
  split
  · rename_i ds
    exact q _ (.inr ⟨ds, rfl, rfl⟩)
  · exact q _ (.inl rfl)⟩

end
end K00

namespace K00
open PySem PySem.Spec L2 DL
section
variable {P : Program} {w : World} {K : PySem.W.Frag} {mg : Str → Option Value} {base : Heap} {A : TxA}

theorem copy_id (ds : List D) : [] ++ (ds.filter fun _ => true).map id = ds := by
  rw [List.nil_append, List.map_id, List.filter_eq_self.mpr (fun _ _ => rfl)]

theorem ok__law_copied (T : Tx K mg A) : ∀ n : Nat, FnOk P w K mg base (L2.CX P w) (n + 1) A.a__law_copied A.f__law_copied ["value"] (spD K 1 (sp__law_copied n))
| 0 => fnok_no fun _ _ _ ⟨_, _, h, _⟩ => h
| n + 1 => by
  have IH := ok__law_copied T n
  refine fn_okD T.F__law_copied sc__law_copied (by decide) (fun cdv A0 outer s H E g hK hr cy => ?_)
  refine ⟨_, _, (dss_cons (ds_if (dt_tru cy (de_isi cy (by rfl) T.m_isinstance (da_cons (de_var 0) (da_cons (de_ty (n := "list") (by rfl) T.m_list (by decide +kernel)) da_nil)))) (dss_one (ds_ret (de_lc cy (own := [("item", 1)]) sc__law_copied.nd (di_any cy (de_var 0)) (blkOk_by (own := [("item", 1)]) (N := N__law_copied) (sc := defScope s__law_copied) (by decide +kernel)) (fun _ _ _ _ _ cy => (dg_name 1 sc__law_copied.nd)) (fun _ _ _ _ _ cy => dts_nil) (fun _ _ _ _ _ cy => (de_call cy IH (mono__law_copied n) (hr.mono (by omega)) (by rfl) T.m__law_copied T.F__law_copied.kp T.b__law_copied (da_cons (de_var 1) da_nil)))))) dss_nil)
    (dss_cons (ds_if (dt_tru cy (de_isi cy (by rfl) T.m_isinstance (da_cons (de_var 0) (da_cons (de_ty (n := "tuple") (by rfl) T.m_tuple (by decide +kernel)) da_nil)))) (dss_one (ds_ret (de_tupf cy (by rfl) T.m_tuple (de_lc cy (own := [("item", 1)]) sc__law_copied.nd (di_any cy (de_var 0)) (blkOk_by (own := [("item", 1)]) (N := N__law_copied) (sc := defScope s__law_copied) (by decide +kernel)) (fun _ _ _ _ _ cy => (dg_name 1 sc__law_copied.nd)) (fun _ _ _ _ _ cy => dts_nil) (fun _ _ _ _ _ cy => (de_call cy IH (mono__law_copied n) (hr.mono (by omega)) (by rfl) T.m__law_copied T.F__law_copied.kp T.b__law_copied (da_cons (de_var 1) da_nil))))))) dss_nil)
    (dss_one (ds_ret (de_var 0))))), fun rs Q Ex hl h => ?_⟩
  obtain ⟨d, rfl, ha, h⟩ := h
  cases d with
  | str s =>
    simp -dsimp only [↓W_var, ↓W_var1, ↓W_var2, ↓W_var3, ↓W_c, ↓W_frz, ↓W_frz1, ↓W_frz2, ↓W_frz3, ↓W_frz4, ↓W_op, ↓W_call, ↓W_fn, ↓W_fn0, ↓W_fnK, ↓W_nil, ↓W_cons, ↓W_add1, ↓W_add2, ↓W_add3, ↓W_add4, ↓W_add5, ↓W_add6, ↓W_add7, ↓W_int, ↓W_int0, ↓W_mul1, ↓W_mul2, ↓W_eq1, ↓W_eq2, ↓W_eq3, ↓W_eq4, ↓W_ne1, ↓W_ne2, ↓W_ne3, ↓W_in1, ↓W_in2, ↓W_in3, ↓W_in4, ↓W_in5, ↓W_is1, ↓W_is2, ↓W_at, ↓W_atS, ↓W_ix1, ↓W_ix2, ↓W_ix3, ↓W_ix4, ↓W_sl, ↓W_on, ↓W_os, ↓W_part, ↓W_sl1, ↓W_sl2, ↓W_sl3, ↓W_sl4, ↓W_len1, ↓W_len2, ↓W_len3, ↓W_len4, ↓W_abs, ↓W_intf, ↓W_strf, ↓W_list1, ↓W_list2, ↓W_list3, ↓W_tup1, ↓W_tup2, ↓W_tup3, ↓W_max, ↓W_min, ↓W_allK, ↓W_all1, ↓W_isi1, ↓W_isi2, ↓W_k_ns, ↓W_k_bs, ↓W_k_is, ↓W_k_ss, ↓W_k_ts, ↓W_k_ls, ↓W_k_nb, ↓W_k_bb, ↓W_k_ib, ↓W_k_sb, ↓W_k_tb, ↓W_k_lb, ↓W_k_ni, ↓W_k_bi, ↓W_k_ii, ↓W_k_si, ↓W_k_ti, ↓W_k_li, ↓W_k_nt, ↓W_k_bt, ↓W_k_it, ↓W_k_st, ↓W_k_tt, ↓W_k_lt, ↓W_k_nl, ↓W_k_bl, ↓W_k_il, ↓W_k_sl, ↓W_k_tl, ↓W_k_ll, ↓W_valsK, ↓W_etup, ↓W_elst, ↓W_vals0, ↓W_vals1, ↓W_bool, ↓W_bool1, ↓W_tand, ↓W_tor, ↓W_tnot, ↓W_tru, ↓W_tru1, ↓W_tru2, ↓W_tru3, ↓W_tru4, ↓W_tru5, ↓W_tru6, ↓W_tru7, ↓W_bo, ↓W_eand, ↓W_eor, ↓W_enot, ↓W_ink, ↓W_eneg, ↓W_snil, ↓W_seq, ↓W_asg, ↓W_asg1, ↓W_asg2, ↓W_asg3, ↓W_ret, ↓W_hand1, ↓W_hand2, ↓W_hand3, ↓W_hand4, ↓W_expr, ↓W_if, ↓W_for, ↓W_any, ↓W_it1, ↓W_it2, ↓W_it3, ↓W_rg1, ↓W_lc, ↓W_bn, ↓W_yes, ↓W_ownK, ↓W_mut, ↓W_app, ↓W_ins, ↓W_setK, ↓W_stK, ↓W_setIx, ↓W_strK, ↓W_upper, ↓W_join1, ↓W_start, ↓W_slot1, ↓W_slot2, ↓W_arg1, ↓W_arg2, ↓W_sFrz, ↓W_strb, endsD, wipeE, List.foldr_cons, List.foldr_nil, List.length_cons, List.length_nil, List.map_cons, List.map_nil, List.cons_append, List.nil_append, List.append_nil, List.replicate, List.getElem?_cons_zero, List.getElem?_cons_succ, List.getElem?_nil, List.set_cons_zero, List.set_cons_succ, Nat.reduceAdd, Nat.reduceSub, Nat.zero_add, if_true, if_false, Bool.false_eq_true, Bool.not_true, Bool.not_false, true_and, and_true, List.forall_mem_cons, List.mem_cons, List.not_mem_nil, or_false, forall_eq_or_imp, forall_eq, false_and, and_false, implies_true, false_or, Option.map_some, Option.map_none, ite_self, Bool.and_true, Bool.true_and, Bool.and_false, Bool.false_and, List.forall_mem_nil, decide_true, decide_false, isNonD, signsD]
    exact h
  | non => 
    simp -dsimp only [↓W_var, ↓W_var1, ↓W_var2, ↓W_var3, ↓W_c, ↓W_frz, ↓W_frz1, ↓W_frz2, ↓W_frz3, ↓W_frz4, ↓W_op, ↓W_call, ↓W_fn, ↓W_fn0, ↓W_fnK, ↓W_nil, ↓W_cons, ↓W_add1, ↓W_add2, ↓W_add3, ↓W_add4, ↓W_add5, ↓W_add6, ↓W_add7, ↓W_int, ↓W_int0, ↓W_mul1, ↓W_mul2, ↓W_eq1, ↓W_eq2, ↓W_eq3, ↓W_eq4, ↓W_ne1, ↓W_ne2, ↓W_ne3, ↓W_in1, ↓W_in2, ↓W_in3, ↓W_in4, ↓W_in5, ↓W_is1, ↓W_is2, ↓W_at, ↓W_atS, ↓W_ix1, ↓W_ix2, ↓W_ix3, ↓W_ix4, ↓W_sl, ↓W_on, ↓W_os, ↓W_part, ↓W_sl1, ↓W_sl2, ↓W_sl3, ↓W_sl4, ↓W_len1, ↓W_len2, ↓W_len3, ↓W_len4, ↓W_abs, ↓W_intf, ↓W_strf, ↓W_list1, ↓W_list2, ↓W_list3, ↓W_tup1, ↓W_tup2, ↓W_tup3, ↓W_max, ↓W_min, ↓W_allK, ↓W_all1, ↓W_isi1, ↓W_isi2, ↓W_k_ns, ↓W_k_bs, ↓W_k_is, ↓W_k_ss, ↓W_k_ts, ↓W_k_ls, ↓W_k_nb, ↓W_k_bb, ↓W_k_ib, ↓W_k_sb, ↓W_k_tb, ↓W_k_lb, ↓W_k_ni, ↓W_k_bi, ↓W_k_ii, ↓W_k_si, ↓W_k_ti, ↓W_k_li, ↓W_k_nt, ↓W_k_bt, ↓W_k_it, ↓W_k_st, ↓W_k_tt, ↓W_k_lt, ↓W_k_nl, ↓W_k_bl, ↓W_k_il, ↓W_k_sl, ↓W_k_tl, ↓W_k_ll, ↓W_valsK, ↓W_etup, ↓W_elst, ↓W_vals0, ↓W_vals1, ↓W_bool, ↓W_bool1, ↓W_tand, ↓W_tor, ↓W_tnot, ↓W_tru, ↓W_tru1, ↓W_tru2, ↓W_tru3, ↓W_tru4, ↓W_tru5, ↓W_tru6, ↓W_tru7, ↓W_bo, ↓W_eand, ↓W_eor, ↓W_enot, ↓W_ink, ↓W_eneg, ↓W_snil, ↓W_seq, ↓W_asg, ↓W_asg1, ↓W_asg2, ↓W_asg3, ↓W_ret, ↓W_hand1, ↓W_hand2, ↓W_hand3, ↓W_hand4, ↓W_expr, ↓W_if, ↓W_for, ↓W_any, ↓W_it1, ↓W_it2, ↓W_it3, ↓W_rg1, ↓W_lc, ↓W_bn, ↓W_yes, ↓W_ownK, ↓W_mut, ↓W_app, ↓W_ins, ↓W_setK, ↓W_stK, ↓W_setIx, ↓W_strK, ↓W_upper, ↓W_join1, ↓W_start, ↓W_slot1, ↓W_slot2, ↓W_arg1, ↓W_arg2, ↓W_sFrz, ↓W_strb, endsD, wipeE, List.foldr_cons, List.foldr_nil, List.length_cons, List.length_nil, List.map_cons, List.map_nil, List.cons_append, List.nil_append, List.append_nil, List.replicate, List.getElem?_cons_zero, List.getElem?_cons_succ, List.getElem?_nil, List.set_cons_zero, List.set_cons_succ, Nat.reduceAdd, Nat.reduceSub, Nat.zero_add, if_true, if_false, Bool.false_eq_true, Bool.not_true, Bool.not_false, true_and, and_true, List.forall_mem_cons, List.mem_cons, List.not_mem_nil, or_false, forall_eq_or_imp, forall_eq, false_and, and_false, implies_true, false_or, Option.map_some, Option.map_none, ite_self, Bool.and_true, Bool.true_and, Bool.and_false, Bool.false_and, List.forall_mem_nil, decide_true, decide_false, isNonD, signsD]
    exact h
  | bl b => 
    simp -dsimp only [↓W_var, ↓W_var1, ↓W_var2, ↓W_var3, ↓W_c, ↓W_frz, ↓W_frz1, ↓W_frz2, ↓W_frz3, ↓W_frz4, ↓W_op, ↓W_call, ↓W_fn, ↓W_fn0, ↓W_fnK, ↓W_nil, ↓W_cons, ↓W_add1, ↓W_add2, ↓W_add3, ↓W_add4, ↓W_add5, ↓W_add6, ↓W_add7, ↓W_int, ↓W_int0, ↓W_mul1, ↓W_mul2, ↓W_eq1, ↓W_eq2, ↓W_eq3, ↓W_eq4, ↓W_ne1, ↓W_ne2, ↓W_ne3, ↓W_in1, ↓W_in2, ↓W_in3, ↓W_in4, ↓W_in5, ↓W_is1, ↓W_is2, ↓W_at, ↓W_atS, ↓W_ix1, ↓W_ix2, ↓W_ix3, ↓W_ix4, ↓W_sl, ↓W_on, ↓W_os, ↓W_part, ↓W_sl1, ↓W_sl2, ↓W_sl3, ↓W_sl4, ↓W_len1, ↓W_len2, ↓W_len3, ↓W_len4, ↓W_abs, ↓W_intf, ↓W_strf, ↓W_list1, ↓W_list2, ↓W_list3, ↓W_tup1, ↓W_tup2, ↓W_tup3, ↓W_max, ↓W_min, ↓W_allK, ↓W_all1, ↓W_isi1, ↓W_isi2, ↓W_k_ns, ↓W_k_bs, ↓W_k_is, ↓W_k_ss, ↓W_k_ts, ↓W_k_ls, ↓W_k_nb, ↓W_k_bb, ↓W_k_ib, ↓W_k_sb, ↓W_k_tb, ↓W_k_lb, ↓W_k_ni, ↓W_k_bi, ↓W_k_ii, ↓W_k_si, ↓W_k_ti, ↓W_k_li, ↓W_k_nt, ↓W_k_bt, ↓W_k_it, ↓W_k_st, ↓W_k_tt, ↓W_k_lt, ↓W_k_nl, ↓W_k_bl, ↓W_k_il, ↓W_k_sl, ↓W_k_tl, ↓W_k_ll, ↓W_valsK, ↓W_etup, ↓W_elst, ↓W_vals0, ↓W_vals1, ↓W_bool, ↓W_bool1, ↓W_tand, ↓W_tor, ↓W_tnot, ↓W_tru, ↓W_tru1, ↓W_tru2, ↓W_tru3, ↓W_tru4, ↓W_tru5, ↓W_tru6, ↓W_tru7, ↓W_bo, ↓W_eand, ↓W_eor, ↓W_enot, ↓W_ink, ↓W_eneg, ↓W_snil, ↓W_seq, ↓W_asg, ↓W_asg1, ↓W_asg2, ↓W_asg3, ↓W_ret, ↓W_hand1, ↓W_hand2, ↓W_hand3, ↓W_hand4, ↓W_expr, ↓W_if, ↓W_for, ↓W_any, ↓W_it1, ↓W_it2, ↓W_it3, ↓W_rg1, ↓W_lc, ↓W_bn, ↓W_yes, ↓W_ownK, ↓W_mut, ↓W_app, ↓W_ins, ↓W_setK, ↓W_stK, ↓W_setIx, ↓W_strK, ↓W_upper, ↓W_join1, ↓W_start, ↓W_slot1, ↓W_slot2, ↓W_arg1, ↓W_arg2, ↓W_sFrz, ↓W_strb, endsD, wipeE, List.foldr_cons, List.foldr_nil, List.length_cons, List.length_nil, List.map_cons, List.map_nil, List.cons_append, List.nil_append, List.append_nil, List.replicate, List.getElem?_cons_zero, List.getElem?_cons_succ, List.getElem?_nil, List.set_cons_zero, List.set_cons_succ, Nat.reduceAdd, Nat.reduceSub, Nat.zero_add, if_true, if_false, Bool.false_eq_true, Bool.not_true, Bool.not_false, true_and, and_true, List.forall_mem_cons, List.mem_cons, List.not_mem_nil, or_false, forall_eq_or_imp, forall_eq, false_and, and_false, implies_true, false_or, Option.map_some, Option.map_none, ite_self, Bool.and_true, Bool.true_and, Bool.and_false, Bool.false_and, List.forall_mem_nil, decide_true, decide_false, isNonD, signsD]
    exact h
  | int i => 
    simp -dsimp only [↓W_var, ↓W_var1, ↓W_var2, ↓W_var3, ↓W_c, ↓W_frz, ↓W_frz1, ↓W_frz2, ↓W_frz3, ↓W_frz4, ↓W_op, ↓W_call, ↓W_fn, ↓W_fn0, ↓W_fnK, ↓W_nil, ↓W_cons, ↓W_add1, ↓W_add2, ↓W_add3, ↓W_add4, ↓W_add5, ↓W_add6, ↓W_add7, ↓W_int, ↓W_int0, ↓W_mul1, ↓W_mul2, ↓W_eq1, ↓W_eq2, ↓W_eq3, ↓W_eq4, ↓W_ne1, ↓W_ne2, ↓W_ne3, ↓W_in1, ↓W_in2, ↓W_in3, ↓W_in4, ↓W_in5, ↓W_is1, ↓W_is2, ↓W_at, ↓W_atS, ↓W_ix1, ↓W_ix2, ↓W_ix3, ↓W_ix4, ↓W_sl, ↓W_on, ↓W_os, ↓W_part, ↓W_sl1, ↓W_sl2, ↓W_sl3, ↓W_sl4, ↓W_len1, ↓W_len2, ↓W_len3, ↓W_len4, ↓W_abs, ↓W_intf, ↓W_strf, ↓W_list1, ↓W_list2, ↓W_list3, ↓W_tup1, ↓W_tup2, ↓W_tup3, ↓W_max, ↓W_min, ↓W_allK, ↓W_all1, ↓W_isi1, ↓W_isi2, ↓W_k_ns, ↓W_k_bs, ↓W_k_is, ↓W_k_ss, ↓W_k_ts, ↓W_k_ls, ↓W_k_nb, ↓W_k_bb, ↓W_k_ib, ↓W_k_sb, ↓W_k_tb, ↓W_k_lb, ↓W_k_ni, ↓W_k_bi, ↓W_k_ii, ↓W_k_si, ↓W_k_ti, ↓W_k_li, ↓W_k_nt, ↓W_k_bt, ↓W_k_it, ↓W_k_st, ↓W_k_tt, ↓W_k_lt, ↓W_k_nl, ↓W_k_bl, ↓W_k_il, ↓W_k_sl, ↓W_k_tl, ↓W_k_ll, ↓W_valsK, ↓W_etup, ↓W_elst, ↓W_vals0, ↓W_vals1, ↓W_bool, ↓W_bool1, ↓W_tand, ↓W_tor, ↓W_tnot, ↓W_tru, ↓W_tru1, ↓W_tru2, ↓W_tru3, ↓W_tru4, ↓W_tru5, ↓W_tru6, ↓W_tru7, ↓W_bo, ↓W_eand, ↓W_eor, ↓W_enot, ↓W_ink, ↓W_eneg, ↓W_snil, ↓W_seq, ↓W_asg, ↓W_asg1, ↓W_asg2, ↓W_asg3, ↓W_ret, ↓W_hand1, ↓W_hand2, ↓W_hand3, ↓W_hand4, ↓W_expr, ↓W_if, ↓W_for, ↓W_any, ↓W_it1, ↓W_it2, ↓W_it3, ↓W_rg1, ↓W_lc, ↓W_bn, ↓W_yes, ↓W_ownK, ↓W_mut, ↓W_app, ↓W_ins, ↓W_setK, ↓W_stK, ↓W_setIx, ↓W_strK, ↓W_upper, ↓W_join1, ↓W_start, ↓W_slot1, ↓W_slot2, ↓W_arg1, ↓W_arg2, ↓W_sFrz, ↓W_strb, endsD, wipeE, List.foldr_cons, List.foldr_nil, List.length_cons, List.length_nil, List.map_cons, List.map_nil, List.cons_append, List.nil_append, List.append_nil, List.replicate, List.getElem?_cons_zero, List.getElem?_cons_succ, List.getElem?_nil, List.set_cons_zero, List.set_cons_succ, Nat.reduceAdd, Nat.reduceSub, Nat.zero_add, if_true, if_false, Bool.false_eq_true, Bool.not_true, Bool.not_false, true_and, and_true, List.forall_mem_cons, List.mem_cons, List.not_mem_nil, or_false, forall_eq_or_imp, forall_eq, false_and, and_false, implies_true, false_or, Option.map_some, Option.map_none, ite_self, Bool.and_true, Bool.true_and, Bool.and_false, Bool.false_and, List.forall_mem_nil, decide_true, decide_false, isNonD, signsD]
    exact h
  | tup ds => 
    simp -dsimp only [↓W_var, ↓W_var1, ↓W_var2, ↓W_var3, ↓W_c, ↓W_frz, ↓W_frz1, ↓W_frz2, ↓W_frz3, ↓W_frz4, ↓W_op, ↓W_call, ↓W_fn, ↓W_fn0, ↓W_fnK, ↓W_nil, ↓W_cons, ↓W_add1, ↓W_add2, ↓W_add3, ↓W_add4, ↓W_add5, ↓W_add6, ↓W_add7, ↓W_int, ↓W_int0, ↓W_mul1, ↓W_mul2, ↓W_eq1, ↓W_eq2, ↓W_eq3, ↓W_eq4, ↓W_ne1, ↓W_ne2, ↓W_ne3, ↓W_in1, ↓W_in2, ↓W_in3, ↓W_in4, ↓W_in5, ↓W_is1, ↓W_is2, ↓W_at, ↓W_atS, ↓W_ix1, ↓W_ix2, ↓W_ix3, ↓W_ix4, ↓W_sl, ↓W_on, ↓W_os, ↓W_part, ↓W_sl1, ↓W_sl2, ↓W_sl3, ↓W_sl4, ↓W_len1, ↓W_len2, ↓W_len3, ↓W_len4, ↓W_abs, ↓W_intf, ↓W_strf, ↓W_list1, ↓W_list2, ↓W_list3, ↓W_tup1, ↓W_tup2, ↓W_tup3, ↓W_max, ↓W_min, ↓W_allK, ↓W_all1, ↓W_isi1, ↓W_isi2, ↓W_k_ns, ↓W_k_bs, ↓W_k_is, ↓W_k_ss, ↓W_k_ts, ↓W_k_ls, ↓W_k_nb, ↓W_k_bb, ↓W_k_ib, ↓W_k_sb, ↓W_k_tb, ↓W_k_lb, ↓W_k_ni, ↓W_k_bi, ↓W_k_ii, ↓W_k_si, ↓W_k_ti, ↓W_k_li, ↓W_k_nt, ↓W_k_bt, ↓W_k_it, ↓W_k_st, ↓W_k_tt, ↓W_k_lt, ↓W_k_nl, ↓W_k_bl, ↓W_k_il, ↓W_k_sl, ↓W_k_tl, ↓W_k_ll, ↓W_valsK, ↓W_etup, ↓W_elst, ↓W_vals0, ↓W_vals1, ↓W_bool, ↓W_bool1, ↓W_tand, ↓W_tor, ↓W_tnot, ↓W_tru, ↓W_tru1, ↓W_tru2, ↓W_tru3, ↓W_tru4, ↓W_tru5, ↓W_tru6, ↓W_tru7, ↓W_bo, ↓W_eand, ↓W_eor, ↓W_enot, ↓W_ink, ↓W_eneg, ↓W_snil, ↓W_seq, ↓W_asg, ↓W_asg1, ↓W_asg2, ↓W_asg3, ↓W_ret, ↓W_hand1, ↓W_hand2, ↓W_hand3, ↓W_hand4, ↓W_expr, ↓W_if, ↓W_for, ↓W_any, ↓W_it1, ↓W_it2, ↓W_it3, ↓W_rg1, ↓W_lc, ↓W_bn, ↓W_yes, ↓W_ownK, ↓W_mut, ↓W_app, ↓W_ins, ↓W_setK, ↓W_stK, ↓W_setIx, ↓W_strK, ↓W_upper, ↓W_join1, ↓W_start, ↓W_slot1, ↓W_slot2, ↓W_arg1, ↓W_arg2, ↓W_sFrz, ↓W_strb, endsD, wipeE, List.foldr_cons, List.foldr_nil, List.length_cons, List.length_nil, List.map_cons, List.map_nil, List.cons_append, List.nil_append, List.append_nil, List.replicate, List.getElem?_cons_zero, List.getElem?_cons_succ, List.getElem?_nil, List.set_cons_zero, List.set_cons_succ, Nat.reduceAdd, Nat.reduceSub, Nat.zero_add, if_true, if_false, Bool.false_eq_true, Bool.not_true, Bool.not_false, true_and, and_true, List.forall_mem_cons, List.mem_cons, List.not_mem_nil, or_false, forall_eq_or_imp, forall_eq, false_and, and_false, implies_true, false_or, Option.map_some, Option.map_none, ite_self, Bool.and_true, Bool.true_and, Bool.and_false, Bool.false_and, List.forall_mem_nil, decide_true, decide_false, isNonD, signsD]
    refine ⟨nn_of ha.1, lcW_map (fun _ => true) id _ _ (fun d hd Y N hy _ => ?_) ?_⟩
    · simp -dsimp only [↓W_var, ↓W_var1, ↓W_var2, ↓W_var3, ↓W_c, ↓W_frz, ↓W_frz1, ↓W_frz2, ↓W_frz3, ↓W_frz4, ↓W_op, ↓W_call, ↓W_fn, ↓W_fn0, ↓W_fnK, ↓W_nil, ↓W_cons, ↓W_add1, ↓W_add2, ↓W_add3, ↓W_add4, ↓W_add5, ↓W_add6, ↓W_add7, ↓W_int, ↓W_int0, ↓W_mul1, ↓W_mul2, ↓W_eq1, ↓W_eq2, ↓W_eq3, ↓W_eq4, ↓W_ne1, ↓W_ne2, ↓W_ne3, ↓W_in1, ↓W_in2, ↓W_in3, ↓W_in4, ↓W_in5, ↓W_is1, ↓W_is2, ↓W_at, ↓W_atS, ↓W_ix1, ↓W_ix2, ↓W_ix3, ↓W_ix4, ↓W_sl, ↓W_on, ↓W_os, ↓W_part, ↓W_sl1, ↓W_sl2, ↓W_sl3, ↓W_sl4, ↓W_len1, ↓W_len2, ↓W_len3, ↓W_len4, ↓W_abs, ↓W_intf, ↓W_strf, ↓W_list1, ↓W_list2, ↓W_list3, ↓W_tup1, ↓W_tup2, ↓W_tup3, ↓W_max, ↓W_min, ↓W_allK, ↓W_all1, ↓W_isi1, ↓W_isi2, ↓W_k_ns, ↓W_k_bs, ↓W_k_is, ↓W_k_ss, ↓W_k_ts, ↓W_k_ls, ↓W_k_nb, ↓W_k_bb, ↓W_k_ib, ↓W_k_sb, ↓W_k_tb, ↓W_k_lb, ↓W_k_ni, ↓W_k_bi, ↓W_k_ii, ↓W_k_si, ↓W_k_ti, ↓W_k_li, ↓W_k_nt, ↓W_k_bt, ↓W_k_it, ↓W_k_st, ↓W_k_tt, ↓W_k_lt, ↓W_k_nl, ↓W_k_bl, ↓W_k_il, ↓W_k_sl, ↓W_k_tl, ↓W_k_ll, ↓W_valsK, ↓W_etup, ↓W_elst, ↓W_vals0, ↓W_vals1, ↓W_bool, ↓W_bool1, ↓W_tand, ↓W_tor, ↓W_tnot, ↓W_tru, ↓W_tru1, ↓W_tru2, ↓W_tru3, ↓W_tru4, ↓W_tru5, ↓W_tru6, ↓W_tru7, ↓W_bo, ↓W_eand, ↓W_eor, ↓W_enot, ↓W_ink, ↓W_eneg, ↓W_snil, ↓W_seq, ↓W_asg, ↓W_asg1, ↓W_asg2, ↓W_asg3, ↓W_ret, ↓W_hand1, ↓W_hand2, ↓W_hand3, ↓W_hand4, ↓W_expr, ↓W_if, ↓W_for, ↓W_any, ↓W_it1, ↓W_it2, ↓W_it3, ↓W_rg1, ↓W_lc, ↓W_bn, ↓W_yes, ↓W_ownK, ↓W_mut, ↓W_app, ↓W_ins, ↓W_setK, ↓W_stK, ↓W_setIx, ↓W_strK, ↓W_upper, ↓W_join1, ↓W_start, ↓W_slot1, ↓W_slot2, ↓W_arg1, ↓W_arg2, ↓W_sFrz, ↓W_strb, endsD, wipeE, List.foldr_cons, List.foldr_nil, List.length_cons, List.length_nil, List.map_cons, List.map_nil, List.cons_append, List.nil_append, List.append_nil, List.replicate, List.getElem?_cons_zero, List.getElem?_cons_succ, List.getElem?_nil, List.set_cons_zero, List.set_cons_succ, Nat.reduceAdd, Nat.reduceSub, Nat.zero_add, if_true, if_false, Bool.false_eq_true, Bool.not_true, Bool.not_false, true_and, and_true, List.forall_mem_cons, List.mem_cons, List.not_mem_nil, or_false, forall_eq_or_imp, forall_eq, false_and, and_false, implies_true, false_or, Option.map_some, Option.map_none, ite_self, Bool.and_true, Bool.true_and, Bool.and_false, Bool.false_and, List.forall_mem_nil, decide_true, decide_false, isNonD, signsD]
      refine copied_of (ha.2 d hd) fun r hr => ?_
      rcases hr with rfl | ⟨xs, rfl, rfl⟩
      · exact ⟨_, rfl, hy rfl⟩
      · exact ⟨_, rfl, hy rfl⟩
    · rw [copy_id]
      simp -dsimp only [↓W_var, ↓W_var1, ↓W_var2, ↓W_var3, ↓W_c, ↓W_frz, ↓W_frz1, ↓W_frz2, ↓W_frz3, ↓W_frz4, ↓W_op, ↓W_call, ↓W_fn, ↓W_fn0, ↓W_fnK, ↓W_nil, ↓W_cons, ↓W_add1, ↓W_add2, ↓W_add3, ↓W_add4, ↓W_add5, ↓W_add6, ↓W_add7, ↓W_int, ↓W_int0, ↓W_mul1, ↓W_mul2, ↓W_eq1, ↓W_eq2, ↓W_eq3, ↓W_eq4, ↓W_ne1, ↓W_ne2, ↓W_ne3, ↓W_in1, ↓W_in2, ↓W_in3, ↓W_in4, ↓W_in5, ↓W_is1, ↓W_is2, ↓W_at, ↓W_atS, ↓W_ix1, ↓W_ix2, ↓W_ix3, ↓W_ix4, ↓W_sl, ↓W_on, ↓W_os, ↓W_part, ↓W_sl1, ↓W_sl2, ↓W_sl3, ↓W_sl4, ↓W_len1, ↓W_len2, ↓W_len3, ↓W_len4, ↓W_abs, ↓W_intf, ↓W_strf, ↓W_list1, ↓W_list2, ↓W_list3, ↓W_tup1, ↓W_tup2, ↓W_tup3, ↓W_max, ↓W_min, ↓W_allK, ↓W_all1, ↓W_isi1, ↓W_isi2, ↓W_k_ns, ↓W_k_bs, ↓W_k_is, ↓W_k_ss, ↓W_k_ts, ↓W_k_ls, ↓W_k_nb, ↓W_k_bb, ↓W_k_ib, ↓W_k_sb, ↓W_k_tb, ↓W_k_lb, ↓W_k_ni, ↓W_k_bi, ↓W_k_ii, ↓W_k_si, ↓W_k_ti, ↓W_k_li, ↓W_k_nt, ↓W_k_bt, ↓W_k_it, ↓W_k_st, ↓W_k_tt, ↓W_k_lt, ↓W_k_nl, ↓W_k_bl, ↓W_k_il, ↓W_k_sl, ↓W_k_tl, ↓W_k_ll, ↓W_valsK, ↓W_etup, ↓W_elst, ↓W_vals0, ↓W_vals1, ↓W_bool, ↓W_bool1, ↓W_tand, ↓W_tor, ↓W_tnot, ↓W_tru, ↓W_tru1, ↓W_tru2, ↓W_tru3, ↓W_tru4, ↓W_tru5, ↓W_tru6, ↓W_tru7, ↓W_bo, ↓W_eand, ↓W_eor, ↓W_enot, ↓W_ink, ↓W_eneg, ↓W_snil, ↓W_seq, ↓W_asg, ↓W_asg1, ↓W_asg2, ↓W_asg3, ↓W_ret, ↓W_hand1, ↓W_hand2, ↓W_hand3, ↓W_hand4, ↓W_expr, ↓W_if, ↓W_for, ↓W_any, ↓W_it1, ↓W_it2, ↓W_it3, ↓W_rg1, ↓W_lc, ↓W_bn, ↓W_yes, ↓W_ownK, ↓W_mut, ↓W_app, ↓W_ins, ↓W_setK, ↓W_stK, ↓W_setIx, ↓W_strK, ↓W_upper, ↓W_join1, ↓W_start, ↓W_slot1, ↓W_slot2, ↓W_arg1, ↓W_arg2, ↓W_sFrz, ↓W_strb, endsD, wipeE, List.foldr_cons, List.foldr_nil, List.length_cons, List.length_nil, List.map_cons, List.map_nil, List.cons_append, List.nil_append, List.append_nil, List.replicate, List.getElem?_cons_zero, List.getElem?_cons_succ, List.getElem?_nil, List.set_cons_zero, List.set_cons_succ, Nat.reduceAdd, Nat.reduceSub, Nat.zero_add, if_true, if_false, Bool.false_eq_true, Bool.not_true, Bool.not_false, true_and, and_true, List.forall_mem_cons, List.mem_cons, List.not_mem_nil, or_false, forall_eq_or_imp, forall_eq, false_and, and_false, implies_true, false_or, Option.map_some, Option.map_none, ite_self, Bool.and_true, Bool.true_and, Bool.and_false, Bool.false_and, List.forall_mem_nil, decide_true, decide_false, isNonD, signsD]
      exact h
  | lst ds => 
    simp -dsimp only [↓W_var, ↓W_var1, ↓W_var2, ↓W_var3, ↓W_c, ↓W_frz, ↓W_frz1, ↓W_frz2, ↓W_frz3, ↓W_frz4, ↓W_op, ↓W_call, ↓W_fn, ↓W_fn0, ↓W_fnK, ↓W_nil, ↓W_cons, ↓W_add1, ↓W_add2, ↓W_add3, ↓W_add4, ↓W_add5, ↓W_add6, ↓W_add7, ↓W_int, ↓W_int0, ↓W_mul1, ↓W_mul2, ↓W_eq1, ↓W_eq2, ↓W_eq3, ↓W_eq4, ↓W_ne1, ↓W_ne2, ↓W_ne3, ↓W_in1, ↓W_in2, ↓W_in3, ↓W_in4, ↓W_in5, ↓W_is1, ↓W_is2, ↓W_at, ↓W_atS, ↓W_ix1, ↓W_ix2, ↓W_ix3, ↓W_ix4, ↓W_sl, ↓W_on, ↓W_os, ↓W_part, ↓W_sl1, ↓W_sl2, ↓W_sl3, ↓W_sl4, ↓W_len1, ↓W_len2, ↓W_len3, ↓W_len4, ↓W_abs, ↓W_intf, ↓W_strf, ↓W_list1, ↓W_list2, ↓W_list3, ↓W_tup1, ↓W_tup2, ↓W_tup3, ↓W_max, ↓W_min, ↓W_allK, ↓W_all1, ↓W_isi1, ↓W_isi2, ↓W_k_ns, ↓W_k_bs, ↓W_k_is, ↓W_k_ss, ↓W_k_ts, ↓W_k_ls, ↓W_k_nb, ↓W_k_bb, ↓W_k_ib, ↓W_k_sb, ↓W_k_tb, ↓W_k_lb, ↓W_k_ni, ↓W_k_bi, ↓W_k_ii, ↓W_k_si, ↓W_k_ti, ↓W_k_li, ↓W_k_nt, ↓W_k_bt, ↓W_k_it, ↓W_k_st, ↓W_k_tt, ↓W_k_lt, ↓W_k_nl, ↓W_k_bl, ↓W_k_il, ↓W_k_sl, ↓W_k_tl, ↓W_k_ll, ↓W_valsK, ↓W_etup, ↓W_elst, ↓W_vals0, ↓W_vals1, ↓W_bool, ↓W_bool1, ↓W_tand, ↓W_tor, ↓W_tnot, ↓W_tru, ↓W_tru1, ↓W_tru2, ↓W_tru3, ↓W_tru4, ↓W_tru5, ↓W_tru6, ↓W_tru7, ↓W_bo, ↓W_eand, ↓W_eor, ↓W_enot, ↓W_ink, ↓W_eneg, ↓W_snil, ↓W_seq, ↓W_asg, ↓W_asg1, ↓W_asg2, ↓W_asg3, ↓W_ret, ↓W_hand1, ↓W_hand2, ↓W_hand3, ↓W_hand4, ↓W_expr, ↓W_if, ↓W_for, ↓W_any, ↓W_it1, ↓W_it2, ↓W_it3, ↓W_rg1, ↓W_lc, ↓W_bn, ↓W_yes, ↓W_ownK, ↓W_mut, ↓W_app, ↓W_ins, ↓W_setK, ↓W_stK, ↓W_setIx, ↓W_strK, ↓W_upper, ↓W_join1, ↓W_start, ↓W_slot1, ↓W_slot2, ↓W_arg1, ↓W_arg2, ↓W_sFrz, ↓W_strb, endsD, wipeE, List.foldr_cons, List.foldr_nil, List.length_cons, List.length_nil, List.map_cons, List.map_nil, List.cons_append, List.nil_append, List.append_nil, List.replicate, List.getElem?_cons_zero, List.getElem?_cons_succ, List.getElem?_nil, List.set_cons_zero, List.set_cons_succ, Nat.reduceAdd, Nat.reduceSub, Nat.zero_add, if_true, if_false, Bool.false_eq_true, Bool.not_true, Bool.not_false, true_and, and_true, List.forall_mem_cons, List.mem_cons, List.not_mem_nil, or_false, forall_eq_or_imp, forall_eq, false_and, and_false, implies_true, false_or, Option.map_some, Option.map_none, ite_self, Bool.and_true, Bool.true_and, Bool.and_false, Bool.false_and, List.forall_mem_nil, decide_true, decide_false, isNonD, signsD]
    refine ⟨nn_of ha.1, lcW_map (fun _ => true) id _ _ (fun d hd Y N hy _ => ?_) ?_⟩
    · simp -dsimp only [↓W_var, ↓W_var1, ↓W_var2, ↓W_var3, ↓W_c, ↓W_frz, ↓W_frz1, ↓W_frz2, ↓W_frz3, ↓W_frz4, ↓W_op, ↓W_call, ↓W_fn, ↓W_fn0, ↓W_fnK, ↓W_nil, ↓W_cons, ↓W_add1, ↓W_add2, ↓W_add3, ↓W_add4, ↓W_add5, ↓W_add6, ↓W_add7, ↓W_int, ↓W_int0, ↓W_mul1, ↓W_mul2, ↓W_eq1, ↓W_eq2, ↓W_eq3, ↓W_eq4, ↓W_ne1, ↓W_ne2, ↓W_ne3, ↓W_in1, ↓W_in2, ↓W_in3, ↓W_in4, ↓W_in5, ↓W_is1, ↓W_is2, ↓W_at, ↓W_atS, ↓W_ix1, ↓W_ix2, ↓W_ix3, ↓W_ix4, ↓W_sl, ↓W_on, ↓W_os, ↓W_part, ↓W_sl1, ↓W_sl2, ↓W_sl3, ↓W_sl4, ↓W_len1, ↓W_len2, ↓W_len3, ↓W_len4, ↓W_abs, ↓W_intf, ↓W_strf, ↓W_list1, ↓W_list2, ↓W_list3, ↓W_tup1, ↓W_tup2, ↓W_tup3, ↓W_max, ↓W_min, ↓W_allK, ↓W_all1, ↓W_isi1, ↓W_isi2, ↓W_k_ns, ↓W_k_bs, ↓W_k_is, ↓W_k_ss, ↓W_k_ts, ↓W_k_ls, ↓W_k_nb, ↓W_k_bb, ↓W_k_ib, ↓W_k_sb, ↓W_k_tb, ↓W_k_lb, ↓W_k_ni, ↓W_k_bi, ↓W_k_ii, ↓W_k_si, ↓W_k_ti, ↓W_k_li, ↓W_k_nt, ↓W_k_bt, ↓W_k_it, ↓W_k_st, ↓W_k_tt, ↓W_k_lt, ↓W_k_nl, ↓W_k_bl, ↓W_k_il, ↓W_k_sl, ↓W_k_tl, ↓W_k_ll, ↓W_valsK, ↓W_etup, ↓W_elst, ↓W_vals0, ↓W_vals1, ↓W_bool, ↓W_bool1, ↓W_tand, ↓W_tor, ↓W_tnot, ↓W_tru, ↓W_tru1, ↓W_tru2, ↓W_tru3, ↓W_tru4, ↓W_tru5, ↓W_tru6, ↓W_tru7, ↓W_bo, ↓W_eand, ↓W_eor, ↓W_enot, ↓W_ink, ↓W_eneg, ↓W_snil, ↓W_seq, ↓W_asg, ↓W_asg1, ↓W_asg2, ↓W_asg3, ↓W_ret, ↓W_hand1, ↓W_hand2, ↓W_hand3, ↓W_hand4, ↓W_expr, ↓W_if, ↓W_for, ↓W_any, ↓W_it1, ↓W_it2, ↓W_it3, ↓W_rg1, ↓W_lc, ↓W_bn, ↓W_yes, ↓W_ownK, ↓W_mut, ↓W_app, ↓W_ins, ↓W_setK, ↓W_stK, ↓W_setIx, ↓W_strK, ↓W_upper, ↓W_join1, ↓W_start, ↓W_slot1, ↓W_slot2, ↓W_arg1, ↓W_arg2, ↓W_sFrz, ↓W_strb, endsD, wipeE, List.foldr_cons, List.foldr_nil, List.length_cons, List.length_nil, List.map_cons, List.map_nil, List.cons_append, List.nil_append, List.append_nil, List.replicate, List.getElem?_cons_zero, List.getElem?_cons_succ, List.getElem?_nil, List.set_cons_zero, List.set_cons_succ, Nat.reduceAdd, Nat.reduceSub, Nat.zero_add, if_true, if_false, Bool.false_eq_true, Bool.not_true, Bool.not_false, true_and, and_true, List.forall_mem_cons, List.mem_cons, List.not_mem_nil, or_false, forall_eq_or_imp, forall_eq, false_and, and_false, implies_true, false_or, Option.map_some, Option.map_none, ite_self, Bool.and_true, Bool.true_and, Bool.and_false, Bool.false_and, List.forall_mem_nil, decide_true, decide_false, isNonD, signsD]
      refine copied_of (ha.2 d hd) fun r hr => ?_
      rcases hr with rfl | ⟨xs, rfl, rfl⟩
      · exact ⟨_, rfl, hy rfl⟩
      · exact ⟨_, rfl, hy rfl⟩
    · rw [copy_id]
      simp -dsimp only [↓W_var, ↓W_var1, ↓W_var2, ↓W_var3, ↓W_c, ↓W_frz, ↓W_frz1, ↓W_frz2, ↓W_frz3, ↓W_frz4, ↓W_op, ↓W_call, ↓W_fn, ↓W_fn0, ↓W_fnK, ↓W_nil, ↓W_cons, ↓W_add1, ↓W_add2, ↓W_add3, ↓W_add4, ↓W_add5, ↓W_add6, ↓W_add7, ↓W_int, ↓W_int0, ↓W_mul1, ↓W_mul2, ↓W_eq1, ↓W_eq2, ↓W_eq3, ↓W_eq4, ↓W_ne1, ↓W_ne2, ↓W_ne3, ↓W_in1, ↓W_in2, ↓W_in3, ↓W_in4, ↓W_in5, ↓W_is1, ↓W_is2, ↓W_at, ↓W_atS, ↓W_ix1, ↓W_ix2, ↓W_ix3, ↓W_ix4, ↓W_sl, ↓W_on, ↓W_os, ↓W_part, ↓W_sl1, ↓W_sl2, ↓W_sl3, ↓W_sl4, ↓W_len1, ↓W_len2, ↓W_len3, ↓W_len4, ↓W_abs, ↓W_intf, ↓W_strf, ↓W_list1, ↓W_list2, ↓W_list3, ↓W_tup1, ↓W_tup2, ↓W_tup3, ↓W_max, ↓W_min, ↓W_allK, ↓W_all1, ↓W_isi1, ↓W_isi2, ↓W_k_ns, ↓W_k_bs, ↓W_k_is, ↓W_k_ss, ↓W_k_ts, ↓W_k_ls, ↓W_k_nb, ↓W_k_bb, ↓W_k_ib, ↓W_k_sb, ↓W_k_tb, ↓W_k_lb, ↓W_k_ni, ↓W_k_bi, ↓W_k_ii, ↓W_k_si, ↓W_k_ti, ↓W_k_li, ↓W_k_nt, ↓W_k_bt, ↓W_k_it, ↓W_k_st, ↓W_k_tt, ↓W_k_lt, ↓W_k_nl, ↓W_k_bl, ↓W_k_il, ↓W_k_sl, ↓W_k_tl, ↓W_k_ll, ↓W_valsK, ↓W_etup, ↓W_elst, ↓W_vals0, ↓W_vals1, ↓W_bool, ↓W_bool1, ↓W_tand, ↓W_tor, ↓W_tnot, ↓W_tru, ↓W_tru1, ↓W_tru2, ↓W_tru3, ↓W_tru4, ↓W_tru5, ↓W_tru6, ↓W_tru7, ↓W_bo, ↓W_eand, ↓W_eor, ↓W_enot, ↓W_ink, ↓W_eneg, ↓W_snil, ↓W_seq, ↓W_asg, ↓W_asg1, ↓W_asg2, ↓W_asg3, ↓W_ret, ↓W_hand1, ↓W_hand2, ↓W_hand3, ↓W_hand4, ↓W_expr, ↓W_if, ↓W_for, ↓W_any, ↓W_it1, ↓W_it2, ↓W_it3, ↓W_rg1, ↓W_lc, ↓W_bn, ↓W_yes, ↓W_ownK, ↓W_mut, ↓W_app, ↓W_ins, ↓W_setK, ↓W_stK, ↓W_setIx, ↓W_strK, ↓W_upper, ↓W_join1, ↓W_start, ↓W_slot1, ↓W_slot2, ↓W_arg1, ↓W_arg2, ↓W_sFrz, ↓W_strb, endsD, wipeE, List.foldr_cons, List.foldr_nil, List.length_cons, List.length_nil, List.map_cons, List.map_nil, List.cons_append, List.nil_append, List.append_nil, List.replicate, List.getElem?_cons_zero, List.getElem?_cons_succ, List.getElem?_nil, List.set_cons_zero, List.set_cons_succ, Nat.reduceAdd, Nat.reduceSub, Nat.zero_add, if_true, if_false, Bool.false_eq_true, Bool.not_true, Bool.not_false, true_and, and_true, List.forall_mem_cons, List.mem_cons, List.not_mem_nil, or_false, forall_eq_or_imp, forall_eq, false_and, and_false, implies_true, false_or, Option.map_some, Option.map_none, ite_self, Bool.and_true, Bool.true_and, Bool.and_false, Bool.false_and, List.forall_mem_nil, decide_true, decide_false, isNonD, signsD]
      exact h
  | _ => exact ha.elim


def sp__law_same : Nat → FD := fun n rs Q _ => ∃ d, rs = [.val d, .val d] ∧ DeepD n d ∧ Q (.val (.bl true))
theorem mono__law_same (n : Nat) : MonoF (sp__law_same n) := fun rs Q Q' E E' hq he ⟨d, h1, h2, h3⟩ => ⟨d, h1, h2, hq _ h3⟩
theorem same_of {n : Nat} {d e : D} {Q : RV → Prop} {E : Exc → Prop} (h : DeepD n d) (he : d = e) (q : Q (.val (.bl true))) : app (sp__law_same n) [.val d, .val e] Q E := by
  subst he
  exact ⟨d, rfl, h, q⟩

theorem ok__law_same (T : Tx K mg A) : ∀ n : Nat, FnOk P w K mg base (L2.CX P w) (n + 1) A.a__law_same A.f__law_same ["actual", "due"] (spD K 2 (sp__law_same n))
| 0 => fnok_no fun _ _ _ ⟨_, _, h, _⟩ => h
| n + 1 => by
  have IH := ok__law_same T n
  refine fn_okD T.F__law_same sc__law_same (by decide) (fun cdv A0 outer s H E g hK hr cy => ?_)
  refine ⟨_, _, (dss_cons (ds_if (dt_is cy (de_var 1) de_non) (dss_one (ds_ret (de_is cy (de_var 0) de_non))) dss_nil)
    (dss_cons (ds_if (dt_tru cy (de_isi cy (by rfl) T.m_isinstance (da_cons (de_var 1) (da_cons (de_ty (n := "bool") (by rfl) T.m_bool (by decide +kernel)) da_nil)))) (dss_one (ds_ret (de_and (de_isi cy (by rfl) T.m_isinstance (da_cons (de_var 0) (da_cons (de_ty (n := "bool") (by rfl) T.m_bool (by decide +kernel)) da_nil))) (de_one (de_eq cy (de_var 0) (de_var 1)))))) dss_nil)
    (dss_cons (ds_if (dt_tru cy (de_isi cy (by rfl) T.m_isinstance (da_cons (de_var 1) (da_cons (de_ty (n := "int") (by rfl) T.m_int (by decide +kernel)) da_nil)))) (dss_one (ds_ret (de_and (de_isi cy (by rfl) T.m_isinstance (da_cons (de_var 0) (da_cons (de_ty (n := "int") (by rfl) T.m_int (by decide +kernel)) da_nil))) (de_and (de_not (de_isi cy (by rfl) T.m_isinstance (da_cons (de_var 0) (da_cons (de_ty (n := "bool") (by rfl) T.m_bool (by decide +kernel)) da_nil)))) (de_one (de_eq cy (de_var 0) (de_var 1))))))) dss_nil)
    (dss_cons (ds_if (dt_tru cy (de_isi cy (by rfl) T.m_isinstance (da_cons (de_var 1) (da_cons (de_ty (n := "str") (by rfl) T.m_str (by decide +kernel)) da_nil)))) (dss_one (ds_ret (de_and (de_isi cy (by rfl) T.m_isinstance (da_cons (de_var 0) (da_cons (de_ty (n := "str") (by rfl) T.m_str (by decide +kernel)) da_nil))) (de_one (de_eq cy (de_var 0) (de_var 1)))))) dss_nil)
    (dss_cons (ds_if (DW.dt (dw_and (dt_tru cy (de_isi cy (by rfl) T.m_isinstance (da_cons (de_var 1) (da_cons (de_ty (n := "tuple") (by rfl) T.m_tuple (by decide +kernel)) da_nil)))) (dw_and1 (dt_not (dt_tru cy (de_isi cy (by rfl) T.m_isinstance (da_cons (de_var 0) (da_cons (de_ty (n := "tuple") (by rfl) T.m_tuple (by decide +kernel)) da_nil)))))))) (dss_one (ds_ret de_bl)) dss_nil)
    (dss_cons (ds_if (DW.dt (dw_and (dt_tru cy (de_isi cy (by rfl) T.m_isinstance (da_cons (de_var 1) (da_cons (de_ty (n := "list") (by rfl) T.m_list (by decide +kernel)) da_nil)))) (dw_and1 (dt_not (dt_tru cy (de_isi cy (by rfl) T.m_isinstance (da_cons (de_var 0) (da_cons (de_ty (n := "list") (by rfl) T.m_list (by decide +kernel)) da_nil)))))))) (dss_one (ds_ret de_bl)) dss_nil)
    (dss_cons (ds_if (dt_ne cy (de_len cy (by rfl) T.m_len (de_var 0)) (de_len cy (by rfl) T.m_len (de_var 1))) (dss_one (ds_ret de_bl)) dss_nil)
    (dss_cons (ds_for cy (di_range1 (by rfl) T.m_range (da_cons (de_len cy (by rfl) T.m_len (de_var 1)) da_nil)) (dg_name 2 sc__law_same.nd) (dss_one (ds_if (dt_not (dt_tru cy (de_call cy IH (mono__law_same n) (hr.mono (by omega)) (by rfl) T.m__law_same T.F__law_same.kp T.b__law_same (da_cons (de_item cy (de_var 0) (de_var 2)) (da_cons (de_item cy (de_var 1) (de_var 2)) da_nil))))) (dss_one (ds_ret de_bl)) dss_nil)))
    (dss_one (ds_ret de_bl)))))))))), fun rs Q Ex hl h => ?_⟩
  obtain ⟨d, rfl, ha, h⟩ := h
  cases d with
  | str s =>
    simp -dsimp only [↓W_var, ↓W_var1, ↓W_var2, ↓W_var3, ↓W_c, ↓W_frz, ↓W_frz1, ↓W_frz2, ↓W_frz3, ↓W_frz4, ↓W_op, ↓W_call, ↓W_fn, ↓W_fn0, ↓W_fnK, ↓W_nil, ↓W_cons, ↓W_add1, ↓W_add2, ↓W_add3, ↓W_add4, ↓W_add5, ↓W_add6, ↓W_add7, ↓W_int, ↓W_int0, ↓W_mul1, ↓W_mul2, ↓W_eq1, ↓W_eq2, ↓W_eq3, ↓W_eq4, ↓W_ne1, ↓W_ne2, ↓W_ne3, ↓W_in1, ↓W_in2, ↓W_in3, ↓W_in4, ↓W_in5, ↓W_is1, ↓W_is2, ↓W_at, ↓W_atS, ↓W_ix1, ↓W_ix2, ↓W_ix3, ↓W_ix4, ↓W_sl, ↓W_on, ↓W_os, ↓W_part, ↓W_sl1, ↓W_sl2, ↓W_sl3, ↓W_sl4, ↓W_len1, ↓W_len2, ↓W_len3, ↓W_len4, ↓W_abs, ↓W_intf, ↓W_strf, ↓W_list1, ↓W_list2, ↓W_list3, ↓W_tup1, ↓W_tup2, ↓W_tup3, ↓W_max, ↓W_min, ↓W_allK, ↓W_all1, ↓W_isi1, ↓W_isi2, ↓W_k_ns, ↓W_k_bs, ↓W_k_is, ↓W_k_ss, ↓W_k_ts, ↓W_k_ls, ↓W_k_nb, ↓W_k_bb, ↓W_k_ib, ↓W_k_sb, ↓W_k_tb, ↓W_k_lb, ↓W_k_ni, ↓W_k_bi, ↓W_k_ii, ↓W_k_si, ↓W_k_ti, ↓W_k_li, ↓W_k_nt, ↓W_k_bt, ↓W_k_it, ↓W_k_st, ↓W_k_tt, ↓W_k_lt, ↓W_k_nl, ↓W_k_bl, ↓W_k_il, ↓W_k_sl, ↓W_k_tl, ↓W_k_ll, ↓W_valsK, ↓W_etup, ↓W_elst, ↓W_vals0, ↓W_vals1, ↓W_bool, ↓W_bool1, ↓W_tand, ↓W_tor, ↓W_tnot, ↓W_tru, ↓W_tru1, ↓W_tru2, ↓W_tru3, ↓W_tru4, ↓W_tru5, ↓W_tru6, ↓W_tru7, ↓W_bo, ↓W_eand, ↓W_eor, ↓W_enot, ↓W_ink, ↓W_eneg, ↓W_snil, ↓W_seq, ↓W_asg, ↓W_asg1, ↓W_asg2, ↓W_asg3, ↓W_ret, ↓W_hand1, ↓W_hand2, ↓W_hand3, ↓W_hand4, ↓W_expr, ↓W_if, ↓W_for, ↓W_any, ↓W_it1, ↓W_it2, ↓W_it3, ↓W_rg1, ↓W_lc, ↓W_bn, ↓W_yes, ↓W_ownK, ↓W_mut, ↓W_app, ↓W_ins, ↓W_setK, ↓W_stK, ↓W_setIx, ↓W_strK, ↓W_upper, ↓W_join1, ↓W_start, ↓W_slot1, ↓W_slot2, ↓W_arg1, ↓W_arg2, ↓W_sFrz, ↓W_strb, endsD, wipeE, List.foldr_cons, List.foldr_nil, List.length_cons, List.length_nil, List.map_cons, List.map_nil, List.cons_append, List.nil_append, List.append_nil, List.replicate, List.getElem?_cons_zero, List.getElem?_cons_succ, List.getElem?_nil, List.set_cons_zero, List.set_cons_succ, Nat.reduceAdd, Nat.reduceSub, Nat.zero_add, if_true, if_false, Bool.false_eq_true, Bool.not_true, Bool.not_false, true_and, and_true, List.forall_mem_cons, List.mem_cons, List.not_mem_nil, or_false, forall_eq_or_imp, forall_eq, false_and, and_false, implies_true, false_or, Option.map_some, Option.map_none, ite_self, Bool.and_true, Bool.true_and, Bool.and_false, Bool.false_and, List.forall_mem_nil, decide_true, decide_false, isNonD, signsD]
    exact h
  | non => 
    simp -dsimp only [↓W_var, ↓W_var1, ↓W_var2, ↓W_var3, ↓W_c, ↓W_frz, ↓W_frz1, ↓W_frz2, ↓W_frz3, ↓W_frz4, ↓W_op, ↓W_call, ↓W_fn, ↓W_fn0, ↓W_fnK, ↓W_nil, ↓W_cons, ↓W_add1, ↓W_add2, ↓W_add3, ↓W_add4, ↓W_add5, ↓W_add6, ↓W_add7, ↓W_int, ↓W_int0, ↓W_mul1, ↓W_mul2, ↓W_eq1, ↓W_eq2, ↓W_eq3, ↓W_eq4, ↓W_ne1, ↓W_ne2, ↓W_ne3, ↓W_in1, ↓W_in2, ↓W_in3, ↓W_in4, ↓W_in5, ↓W_is1, ↓W_is2, ↓W_at, ↓W_atS, ↓W_ix1, ↓W_ix2, ↓W_ix3, ↓W_ix4, ↓W_sl, ↓W_on, ↓W_os, ↓W_part, ↓W_sl1, ↓W_sl2, ↓W_sl3, ↓W_sl4, ↓W_len1, ↓W_len2, ↓W_len3, ↓W_len4, ↓W_abs, ↓W_intf, ↓W_strf, ↓W_list1, ↓W_list2, ↓W_list3, ↓W_tup1, ↓W_tup2, ↓W_tup3, ↓W_max, ↓W_min, ↓W_allK, ↓W_all1, ↓W_isi1, ↓W_isi2, ↓W_k_ns, ↓W_k_bs, ↓W_k_is, ↓W_k_ss, ↓W_k_ts, ↓W_k_ls, ↓W_k_nb, ↓W_k_bb, ↓W_k_ib, ↓W_k_sb, ↓W_k_tb, ↓W_k_lb, ↓W_k_ni, ↓W_k_bi, ↓W_k_ii, ↓W_k_si, ↓W_k_ti, ↓W_k_li, ↓W_k_nt, ↓W_k_bt, ↓W_k_it, ↓W_k_st, ↓W_k_tt, ↓W_k_lt, ↓W_k_nl, ↓W_k_bl, ↓W_k_il, ↓W_k_sl, ↓W_k_tl, ↓W_k_ll, ↓W_valsK, ↓W_etup, ↓W_elst, ↓W_vals0, ↓W_vals1, ↓W_bool, ↓W_bool1, ↓W_tand, ↓W_tor, ↓W_tnot, ↓W_tru, ↓W_tru1, ↓W_tru2, ↓W_tru3, ↓W_tru4, ↓W_tru5, ↓W_tru6, ↓W_tru7, ↓W_bo, ↓W_eand, ↓W_eor, ↓W_enot, ↓W_ink, ↓W_eneg, ↓W_snil, ↓W_seq, ↓W_asg, ↓W_asg1, ↓W_asg2, ↓W_asg3, ↓W_ret, ↓W_hand1, ↓W_hand2, ↓W_hand3, ↓W_hand4, ↓W_expr, ↓W_if, ↓W_for, ↓W_any, ↓W_it1, ↓W_it2, ↓W_it3, ↓W_rg1, ↓W_lc, ↓W_bn, ↓W_yes, ↓W_ownK, ↓W_mut, ↓W_app, ↓W_ins, ↓W_setK, ↓W_stK, ↓W_setIx, ↓W_strK, ↓W_upper, ↓W_join1, ↓W_start, ↓W_slot1, ↓W_slot2, ↓W_arg1, ↓W_arg2, ↓W_sFrz, ↓W_strb, endsD, wipeE, List.foldr_cons, List.foldr_nil, List.length_cons, List.length_nil, List.map_cons, List.map_nil, List.cons_append, List.nil_append, List.append_nil, List.replicate, List.getElem?_cons_zero, List.getElem?_cons_succ, List.getElem?_nil, List.set_cons_zero, List.set_cons_succ, Nat.reduceAdd, Nat.reduceSub, Nat.zero_add, if_true, if_false, Bool.false_eq_true, Bool.not_true, Bool.not_false, true_and, and_true, List.forall_mem_cons, List.mem_cons, List.not_mem_nil, or_false, forall_eq_or_imp, forall_eq, false_and, and_false, implies_true, false_or, Option.map_some, Option.map_none, ite_self, Bool.and_true, Bool.true_and, Bool.and_false, Bool.false_and, List.forall_mem_nil, decide_true, decide_false, isNonD, signsD]
    exact h
  | bl b => 
    simp -dsimp only [↓W_var, ↓W_var1, ↓W_var2, ↓W_var3, ↓W_c, ↓W_frz, ↓W_frz1, ↓W_frz2, ↓W_frz3, ↓W_frz4, ↓W_op, ↓W_call, ↓W_fn, ↓W_fn0, ↓W_fnK, ↓W_nil, ↓W_cons, ↓W_add1, ↓W_add2, ↓W_add3, ↓W_add4, ↓W_add5, ↓W_add6, ↓W_add7, ↓W_int, ↓W_int0, ↓W_mul1, ↓W_mul2, ↓W_eq1, ↓W_eq2, ↓W_eq3, ↓W_eq4, ↓W_ne1, ↓W_ne2, ↓W_ne3, ↓W_in1, ↓W_in2, ↓W_in3, ↓W_in4, ↓W_in5, ↓W_is1, ↓W_is2, ↓W_at, ↓W_atS, ↓W_ix1, ↓W_ix2, ↓W_ix3, ↓W_ix4, ↓W_sl, ↓W_on, ↓W_os, ↓W_part, ↓W_sl1, ↓W_sl2, ↓W_sl3, ↓W_sl4, ↓W_len1, ↓W_len2, ↓W_len3, ↓W_len4, ↓W_abs, ↓W_intf, ↓W_strf, ↓W_list1, ↓W_list2, ↓W_list3, ↓W_tup1, ↓W_tup2, ↓W_tup3, ↓W_max, ↓W_min, ↓W_allK, ↓W_all1, ↓W_isi1, ↓W_isi2, ↓W_k_ns, ↓W_k_bs, ↓W_k_is, ↓W_k_ss, ↓W_k_ts, ↓W_k_ls, ↓W_k_nb, ↓W_k_bb, ↓W_k_ib, ↓W_k_sb, ↓W_k_tb, ↓W_k_lb, ↓W_k_ni, ↓W_k_bi, ↓W_k_ii, ↓W_k_si, ↓W_k_ti, ↓W_k_li, ↓W_k_nt, ↓W_k_bt, ↓W_k_it, ↓W_k_st, ↓W_k_tt, ↓W_k_lt, ↓W_k_nl, ↓W_k_bl, ↓W_k_il, ↓W_k_sl, ↓W_k_tl, ↓W_k_ll, ↓W_valsK, ↓W_etup, ↓W_elst, ↓W_vals0, ↓W_vals1, ↓W_bool, ↓W_bool1, ↓W_tand, ↓W_tor, ↓W_tnot, ↓W_tru, ↓W_tru1, ↓W_tru2, ↓W_tru3, ↓W_tru4, ↓W_tru5, ↓W_tru6, ↓W_tru7, ↓W_bo, ↓W_eand, ↓W_eor, ↓W_enot, ↓W_ink, ↓W_eneg, ↓W_snil, ↓W_seq, ↓W_asg, ↓W_asg1, ↓W_asg2, ↓W_asg3, ↓W_ret, ↓W_hand1, ↓W_hand2, ↓W_hand3, ↓W_hand4, ↓W_expr, ↓W_if, ↓W_for, ↓W_any, ↓W_it1, ↓W_it2, ↓W_it3, ↓W_rg1, ↓W_lc, ↓W_bn, ↓W_yes, ↓W_ownK, ↓W_mut, ↓W_app, ↓W_ins, ↓W_setK, ↓W_stK, ↓W_setIx, ↓W_strK, ↓W_upper, ↓W_join1, ↓W_start, ↓W_slot1, ↓W_slot2, ↓W_arg1, ↓W_arg2, ↓W_sFrz, ↓W_strb, endsD, wipeE, List.foldr_cons, List.foldr_nil, List.length_cons, List.length_nil, List.map_cons, List.map_nil, List.cons_append, List.nil_append, List.append_nil, List.replicate, List.getElem?_cons_zero, List.getElem?_cons_succ, List.getElem?_nil, List.set_cons_zero, List.set_cons_succ, Nat.reduceAdd, Nat.reduceSub, Nat.zero_add, if_true, if_false, Bool.false_eq_true, Bool.not_true, Bool.not_false, true_and, and_true, List.forall_mem_cons, List.mem_cons, List.not_mem_nil, or_false, forall_eq_or_imp, forall_eq, false_and, and_false, implies_true, false_or, Option.map_some, Option.map_none, ite_self, Bool.and_true, Bool.true_and, Bool.and_false, Bool.false_and, List.forall_mem_nil, decide_true, decide_false, isNonD, signsD]
    exact h
  | int i => 
    simp -dsimp only [↓W_var, ↓W_var1, ↓W_var2, ↓W_var3, ↓W_c, ↓W_frz, ↓W_frz1, ↓W_frz2, ↓W_frz3, ↓W_frz4, ↓W_op, ↓W_call, ↓W_fn, ↓W_fn0, ↓W_fnK, ↓W_nil, ↓W_cons, ↓W_add1, ↓W_add2, ↓W_add3, ↓W_add4, ↓W_add5, ↓W_add6, ↓W_add7, ↓W_int, ↓W_int0, ↓W_mul1, ↓W_mul2, ↓W_eq1, ↓W_eq2, ↓W_eq3, ↓W_eq4, ↓W_ne1, ↓W_ne2, ↓W_ne3, ↓W_in1, ↓W_in2, ↓W_in3, ↓W_in4, ↓W_in5, ↓W_is1, ↓W_is2, ↓W_at, ↓W_atS, ↓W_ix1, ↓W_ix2, ↓W_ix3, ↓W_ix4, ↓W_sl, ↓W_on, ↓W_os, ↓W_part, ↓W_sl1, ↓W_sl2, ↓W_sl3, ↓W_sl4, ↓W_len1, ↓W_len2, ↓W_len3, ↓W_len4, ↓W_abs, ↓W_intf, ↓W_strf, ↓W_list1, ↓W_list2, ↓W_list3, ↓W_tup1, ↓W_tup2, ↓W_tup3, ↓W_max, ↓W_min, ↓W_allK, ↓W_all1, ↓W_isi1, ↓W_isi2, ↓W_k_ns, ↓W_k_bs, ↓W_k_is, ↓W_k_ss, ↓W_k_ts, ↓W_k_ls, ↓W_k_nb, ↓W_k_bb, ↓W_k_ib, ↓W_k_sb, ↓W_k_tb, ↓W_k_lb, ↓W_k_ni, ↓W_k_bi, ↓W_k_ii, ↓W_k_si, ↓W_k_ti, ↓W_k_li, ↓W_k_nt, ↓W_k_bt, ↓W_k_it, ↓W_k_st, ↓W_k_tt, ↓W_k_lt, ↓W_k_nl, ↓W_k_bl, ↓W_k_il, ↓W_k_sl, ↓W_k_tl, ↓W_k_ll, ↓W_valsK, ↓W_etup, ↓W_elst, ↓W_vals0, ↓W_vals1, ↓W_bool, ↓W_bool1, ↓W_tand, ↓W_tor, ↓W_tnot, ↓W_tru, ↓W_tru1, ↓W_tru2, ↓W_tru3, ↓W_tru4, ↓W_tru5, ↓W_tru6, ↓W_tru7, ↓W_bo, ↓W_eand, ↓W_eor, ↓W_enot, ↓W_ink, ↓W_eneg, ↓W_snil, ↓W_seq, ↓W_asg, ↓W_asg1, ↓W_asg2, ↓W_asg3, ↓W_ret, ↓W_hand1, ↓W_hand2, ↓W_hand3, ↓W_hand4, ↓W_expr, ↓W_if, ↓W_for, ↓W_any, ↓W_it1, ↓W_it2, ↓W_it3, ↓W_rg1, ↓W_lc, ↓W_bn, ↓W_yes, ↓W_ownK, ↓W_mut, ↓W_app, ↓W_ins, ↓W_setK, ↓W_stK, ↓W_setIx, ↓W_strK, ↓W_upper, ↓W_join1, ↓W_start, ↓W_slot1, ↓W_slot2, ↓W_arg1, ↓W_arg2, ↓W_sFrz, ↓W_strb, endsD, wipeE, List.foldr_cons, List.foldr_nil, List.length_cons, List.length_nil, List.map_cons, List.map_nil, List.cons_append, List.nil_append, List.append_nil, List.replicate, List.getElem?_cons_zero, List.getElem?_cons_succ, List.getElem?_nil, List.set_cons_zero, List.set_cons_succ, Nat.reduceAdd, Nat.reduceSub, Nat.zero_add, if_true, if_false, Bool.false_eq_true, Bool.not_true, Bool.not_false, true_and, and_true, List.forall_mem_cons, List.mem_cons, List.not_mem_nil, or_false, forall_eq_or_imp, forall_eq, false_and, and_false, implies_true, false_or, Option.map_some, Option.map_none, ite_self, Bool.and_true, Bool.true_and, Bool.and_false, Bool.false_and, List.forall_mem_nil, decide_true, decide_false, isNonD, signsD]
    exact h
  | tup ds => 
    simp -dsimp only [↓W_var, ↓W_var1, ↓W_var2, ↓W_var3, ↓W_c, ↓W_frz, ↓W_frz1, ↓W_frz2, ↓W_frz3, ↓W_frz4, ↓W_op, ↓W_call, ↓W_fn, ↓W_fn0, ↓W_fnK, ↓W_nil, ↓W_cons, ↓W_add1, ↓W_add2, ↓W_add3, ↓W_add4, ↓W_add5, ↓W_add6, ↓W_add7, ↓W_int, ↓W_int0, ↓W_mul1, ↓W_mul2, ↓W_eq1, ↓W_eq2, ↓W_eq3, ↓W_eq4, ↓W_ne1, ↓W_ne2, ↓W_ne3, ↓W_in1, ↓W_in2, ↓W_in3, ↓W_in4, ↓W_in5, ↓W_is1, ↓W_is2, ↓W_at, ↓W_atS, ↓W_ix1, ↓W_ix2, ↓W_ix3, ↓W_ix4, ↓W_sl, ↓W_on, ↓W_os, ↓W_part, ↓W_sl1, ↓W_sl2, ↓W_sl3, ↓W_sl4, ↓W_len1, ↓W_len2, ↓W_len3, ↓W_len4, ↓W_abs, ↓W_intf, ↓W_strf, ↓W_list1, ↓W_list2, ↓W_list3, ↓W_tup1, ↓W_tup2, ↓W_tup3, ↓W_max, ↓W_min, ↓W_allK, ↓W_all1, ↓W_isi1, ↓W_isi2, ↓W_k_ns, ↓W_k_bs, ↓W_k_is, ↓W_k_ss, ↓W_k_ts, ↓W_k_ls, ↓W_k_nb, ↓W_k_bb, ↓W_k_ib, ↓W_k_sb, ↓W_k_tb, ↓W_k_lb, ↓W_k_ni, ↓W_k_bi, ↓W_k_ii, ↓W_k_si, ↓W_k_ti, ↓W_k_li, ↓W_k_nt, ↓W_k_bt, ↓W_k_it, ↓W_k_st, ↓W_k_tt, ↓W_k_lt, ↓W_k_nl, ↓W_k_bl, ↓W_k_il, ↓W_k_sl, ↓W_k_tl, ↓W_k_ll, ↓W_valsK, ↓W_etup, ↓W_elst, ↓W_vals0, ↓W_vals1, ↓W_bool, ↓W_bool1, ↓W_tand, ↓W_tor, ↓W_tnot, ↓W_tru, ↓W_tru1, ↓W_tru2, ↓W_tru3, ↓W_tru4, ↓W_tru5, ↓W_tru6, ↓W_tru7, ↓W_bo, ↓W_eand, ↓W_eor, ↓W_enot, ↓W_ink, ↓W_eneg, ↓W_snil, ↓W_seq, ↓W_asg, ↓W_asg1, ↓W_asg2, ↓W_asg3, ↓W_ret, ↓W_hand1, ↓W_hand2, ↓W_hand3, ↓W_hand4, ↓W_expr, ↓W_if, ↓W_for, ↓W_any, ↓W_it1, ↓W_it2, ↓W_it3, ↓W_rg1, ↓W_lc, ↓W_bn, ↓W_yes, ↓W_ownK, ↓W_mut, ↓W_app, ↓W_ins, ↓W_setK, ↓W_stK, ↓W_setIx, ↓W_strK, ↓W_upper, ↓W_join1, ↓W_start, ↓W_slot1, ↓W_slot2, ↓W_arg1, ↓W_arg2, ↓W_sFrz, ↓W_strb, endsD, wipeE, List.foldr_cons, List.foldr_nil, List.length_cons, List.length_nil, List.map_cons, List.map_nil, List.cons_append, List.nil_append, List.append_nil, List.replicate, List.getElem?_cons_zero, List.getElem?_cons_succ, List.getElem?_nil, List.set_cons_zero, List.set_cons_succ, Nat.reduceAdd, Nat.reduceSub, Nat.zero_add, if_true, if_false, Bool.false_eq_true, Bool.not_true, Bool.not_false, true_and, and_true, List.forall_mem_cons, List.mem_cons, List.not_mem_nil, or_false, forall_eq_or_imp, forall_eq, false_and, and_false, implies_true, false_or, Option.map_some, Option.map_none, ite_self, Bool.and_true, Bool.true_and, Bool.and_false, Bool.false_and, List.forall_mem_nil, decide_true, decide_false, isNonD, signsD]
    have hl1 : ds.length ≤ 1000 := ha.1
    refine ⟨by omega, by omega, nn_of (by rw [range_len, Int.toNat_natCast]; exact ha.1), ?_⟩
    refine forW_inv (fun i env => ∃ z : Option SV, env = [some (.val (.tup ds)), some (.val (.tup ds)), z]) (fun i d env N hi ⟨z, e⟩ hN => ?A) (fun env ⟨z, e⟩ => ?B) _ ⟨_, rfl⟩
    case A =>
      subst e
      obtain ⟨hj, rfl⟩ := range_at hi
      rw [Int.toNat_natCast] at hj
      simp -dsimp only [↓W_var, ↓W_var1, ↓W_var2, ↓W_var3, ↓W_c, ↓W_frz, ↓W_frz1, ↓W_frz2, ↓W_frz3, ↓W_frz4, ↓W_op, ↓W_call, ↓W_fn, ↓W_fn0, ↓W_fnK, ↓W_nil, ↓W_cons, ↓W_add1, ↓W_add2, ↓W_add3, ↓W_add4, ↓W_add5, ↓W_add6, ↓W_add7, ↓W_int, ↓W_int0, ↓W_mul1, ↓W_mul2, ↓W_eq1, ↓W_eq2, ↓W_eq3, ↓W_eq4, ↓W_ne1, ↓W_ne2, ↓W_ne3, ↓W_in1, ↓W_in2, ↓W_in3, ↓W_in4, ↓W_in5, ↓W_is1, ↓W_is2, ↓W_at, ↓W_atS, ↓W_ix1, ↓W_ix2, ↓W_ix3, ↓W_ix4, ↓W_sl, ↓W_on, ↓W_os, ↓W_part, ↓W_sl1, ↓W_sl2, ↓W_sl3, ↓W_sl4, ↓W_len1, ↓W_len2, ↓W_len3, ↓W_len4, ↓W_abs, ↓W_intf, ↓W_strf, ↓W_list1, ↓W_list2, ↓W_list3, ↓W_tup1, ↓W_tup2, ↓W_tup3, ↓W_max, ↓W_min, ↓W_allK, ↓W_all1, ↓W_isi1, ↓W_isi2, ↓W_k_ns, ↓W_k_bs, ↓W_k_is, ↓W_k_ss, ↓W_k_ts, ↓W_k_ls, ↓W_k_nb, ↓W_k_bb, ↓W_k_ib, ↓W_k_sb, ↓W_k_tb, ↓W_k_lb, ↓W_k_ni, ↓W_k_bi, ↓W_k_ii, ↓W_k_si, ↓W_k_ti, ↓W_k_li, ↓W_k_nt, ↓W_k_bt, ↓W_k_it, ↓W_k_st, ↓W_k_tt, ↓W_k_lt, ↓W_k_nl, ↓W_k_bl, ↓W_k_il, ↓W_k_sl, ↓W_k_tl, ↓W_k_ll, ↓W_valsK, ↓W_etup, ↓W_elst, ↓W_vals0, ↓W_vals1, ↓W_bool, ↓W_bool1, ↓W_tand, ↓W_tor, ↓W_tnot, ↓W_tru, ↓W_tru1, ↓W_tru2, ↓W_tru3, ↓W_tru4, ↓W_tru5, ↓W_tru6, ↓W_tru7, ↓W_bo, ↓W_eand, ↓W_eor, ↓W_enot, ↓W_ink, ↓W_eneg, ↓W_snil, ↓W_seq, ↓W_asg, ↓W_asg1, ↓W_asg2, ↓W_asg3, ↓W_ret, ↓W_hand1, ↓W_hand2, ↓W_hand3, ↓W_hand4, ↓W_expr, ↓W_if, ↓W_for, ↓W_any, ↓W_it1, ↓W_it2, ↓W_it3, ↓W_rg1, ↓W_lc, ↓W_bn, ↓W_yes, ↓W_ownK, ↓W_mut, ↓W_app, ↓W_ins, ↓W_setK, ↓W_stK, ↓W_setIx, ↓W_strK, ↓W_upper, ↓W_join1, ↓W_start, ↓W_slot1, ↓W_slot2, ↓W_arg1, ↓W_arg2, ↓W_sFrz, ↓W_strb, endsD, wipeE, List.foldr_cons, List.foldr_nil, List.length_cons, List.length_nil, List.map_cons, List.map_nil, List.cons_append, List.nil_append, List.append_nil, List.replicate, List.getElem?_cons_zero, List.getElem?_cons_succ, List.getElem?_nil, List.set_cons_zero, List.set_cons_succ, Nat.reduceAdd, Nat.reduceSub, Nat.zero_add, if_true, if_false, Bool.false_eq_true, Bool.not_true, Bool.not_false, true_and, and_true, List.forall_mem_cons, List.mem_cons, List.not_mem_nil, or_false, forall_eq_or_imp, forall_eq, false_and, and_false, implies_true, false_or, Option.map_some, Option.map_none, ite_self, Bool.and_true, Bool.true_and, Bool.and_false, Bool.false_and, List.forall_mem_nil, decide_true, decide_false, isNonD, signsD]
      have e2 : ds[i]? = some (ds[i]'hj) := List.getElem?_eq_getElem hj
      rw [Int.zero_add]
      refine atK_at e2 ?_
      simp -dsimp only [↓W_var, ↓W_var1, ↓W_var2, ↓W_var3, ↓W_c, ↓W_frz, ↓W_frz1, ↓W_frz2, ↓W_frz3, ↓W_frz4, ↓W_op, ↓W_call, ↓W_fn, ↓W_fn0, ↓W_fnK, ↓W_nil, ↓W_cons, ↓W_add1, ↓W_add2, ↓W_add3, ↓W_add4, ↓W_add5, ↓W_add6, ↓W_add7, ↓W_int, ↓W_int0, ↓W_mul1, ↓W_mul2, ↓W_eq1, ↓W_eq2, ↓W_eq3, ↓W_eq4, ↓W_ne1, ↓W_ne2, ↓W_ne3, ↓W_in1, ↓W_in2, ↓W_in3, ↓W_in4, ↓W_in5, ↓W_is1, ↓W_is2, ↓W_at, ↓W_atS, ↓W_ix1, ↓W_ix2, ↓W_ix3, ↓W_ix4, ↓W_sl, ↓W_on, ↓W_os, ↓W_part, ↓W_sl1, ↓W_sl2, ↓W_sl3, ↓W_sl4, ↓W_len1, ↓W_len2, ↓W_len3, ↓W_len4, ↓W_abs, ↓W_intf, ↓W_strf, ↓W_list1, ↓W_list2, ↓W_list3, ↓W_tup1, ↓W_tup2, ↓W_tup3, ↓W_max, ↓W_min, ↓W_allK, ↓W_all1, ↓W_isi1, ↓W_isi2, ↓W_k_ns, ↓W_k_bs, ↓W_k_is, ↓W_k_ss, ↓W_k_ts, ↓W_k_ls, ↓W_k_nb, ↓W_k_bb, ↓W_k_ib, ↓W_k_sb, ↓W_k_tb, ↓W_k_lb, ↓W_k_ni, ↓W_k_bi, ↓W_k_ii, ↓W_k_si, ↓W_k_ti, ↓W_k_li, ↓W_k_nt, ↓W_k_bt, ↓W_k_it, ↓W_k_st, ↓W_k_tt, ↓W_k_lt, ↓W_k_nl, ↓W_k_bl, ↓W_k_il, ↓W_k_sl, ↓W_k_tl, ↓W_k_ll, ↓W_valsK, ↓W_etup, ↓W_elst, ↓W_vals0, ↓W_vals1, ↓W_bool, ↓W_bool1, ↓W_tand, ↓W_tor, ↓W_tnot, ↓W_tru, ↓W_tru1, ↓W_tru2, ↓W_tru3, ↓W_tru4, ↓W_tru5, ↓W_tru6, ↓W_tru7, ↓W_bo, ↓W_eand, ↓W_eor, ↓W_enot, ↓W_ink, ↓W_eneg, ↓W_snil, ↓W_seq, ↓W_asg, ↓W_asg1, ↓W_asg2, ↓W_asg3, ↓W_ret, ↓W_hand1, ↓W_hand2, ↓W_hand3, ↓W_hand4, ↓W_expr, ↓W_if, ↓W_for, ↓W_any, ↓W_it1, ↓W_it2, ↓W_it3, ↓W_rg1, ↓W_lc, ↓W_bn, ↓W_yes, ↓W_ownK, ↓W_mut, ↓W_app, ↓W_ins, ↓W_setK, ↓W_stK, ↓W_setIx, ↓W_strK, ↓W_upper, ↓W_join1, ↓W_start, ↓W_slot1, ↓W_slot2, ↓W_arg1, ↓W_arg2, ↓W_sFrz, ↓W_strb, endsD, wipeE, List.foldr_cons, List.foldr_nil, List.length_cons, List.length_nil, List.map_cons, List.map_nil, List.cons_append, List.nil_append, List.append_nil, List.replicate, List.getElem?_cons_zero, List.getElem?_cons_succ, List.getElem?_nil, List.set_cons_zero, List.set_cons_succ, Nat.reduceAdd, Nat.reduceSub, Nat.zero_add, if_true, if_false, Bool.false_eq_true, Bool.not_true, Bool.not_false, true_and, and_true, List.forall_mem_cons, List.mem_cons, List.not_mem_nil, or_false, forall_eq_or_imp, forall_eq, false_and, and_false, implies_true, false_or, Option.map_some, Option.map_none, ite_self, Bool.and_true, Bool.true_and, Bool.and_false, Bool.false_and, List.forall_mem_nil, decide_true, decide_false, isNonD, signsD]
      refine atK_at e2 ?_
      simp -dsimp only [↓W_var, ↓W_var1, ↓W_var2, ↓W_var3, ↓W_c, ↓W_frz, ↓W_frz1, ↓W_frz2, ↓W_frz3, ↓W_frz4, ↓W_op, ↓W_call, ↓W_fn, ↓W_fn0, ↓W_fnK, ↓W_nil, ↓W_cons, ↓W_add1, ↓W_add2, ↓W_add3, ↓W_add4, ↓W_add5, ↓W_add6, ↓W_add7, ↓W_int, ↓W_int0, ↓W_mul1, ↓W_mul2, ↓W_eq1, ↓W_eq2, ↓W_eq3, ↓W_eq4, ↓W_ne1, ↓W_ne2, ↓W_ne3, ↓W_in1, ↓W_in2, ↓W_in3, ↓W_in4, ↓W_in5, ↓W_is1, ↓W_is2, ↓W_at, ↓W_atS, ↓W_ix1, ↓W_ix2, ↓W_ix3, ↓W_ix4, ↓W_sl, ↓W_on, ↓W_os, ↓W_part, ↓W_sl1, ↓W_sl2, ↓W_sl3, ↓W_sl4, ↓W_len1, ↓W_len2, ↓W_len3, ↓W_len4, ↓W_abs, ↓W_intf, ↓W_strf, ↓W_list1, ↓W_list2, ↓W_list3, ↓W_tup1, ↓W_tup2, ↓W_tup3, ↓W_max, ↓W_min, ↓W_allK, ↓W_all1, ↓W_isi1, ↓W_isi2, ↓W_k_ns, ↓W_k_bs, ↓W_k_is, ↓W_k_ss, ↓W_k_ts, ↓W_k_ls, ↓W_k_nb, ↓W_k_bb, ↓W_k_ib, ↓W_k_sb, ↓W_k_tb, ↓W_k_lb, ↓W_k_ni, ↓W_k_bi, ↓W_k_ii, ↓W_k_si, ↓W_k_ti, ↓W_k_li, ↓W_k_nt, ↓W_k_bt, ↓W_k_it, ↓W_k_st, ↓W_k_tt, ↓W_k_lt, ↓W_k_nl, ↓W_k_bl, ↓W_k_il, ↓W_k_sl, ↓W_k_tl, ↓W_k_ll, ↓W_valsK, ↓W_etup, ↓W_elst, ↓W_vals0, ↓W_vals1, ↓W_bool, ↓W_bool1, ↓W_tand, ↓W_tor, ↓W_tnot, ↓W_tru, ↓W_tru1, ↓W_tru2, ↓W_tru3, ↓W_tru4, ↓W_tru5, ↓W_tru6, ↓W_tru7, ↓W_bo, ↓W_eand, ↓W_eor, ↓W_enot, ↓W_ink, ↓W_eneg, ↓W_snil, ↓W_seq, ↓W_asg, ↓W_asg1, ↓W_asg2, ↓W_asg3, ↓W_ret, ↓W_hand1, ↓W_hand2, ↓W_hand3, ↓W_hand4, ↓W_expr, ↓W_if, ↓W_for, ↓W_any, ↓W_it1, ↓W_it2, ↓W_it3, ↓W_rg1, ↓W_lc, ↓W_bn, ↓W_yes, ↓W_ownK, ↓W_mut, ↓W_app, ↓W_ins, ↓W_setK, ↓W_stK, ↓W_setIx, ↓W_strK, ↓W_upper, ↓W_join1, ↓W_start, ↓W_slot1, ↓W_slot2, ↓W_arg1, ↓W_arg2, ↓W_sFrz, ↓W_strb, endsD, wipeE, List.foldr_cons, List.foldr_nil, List.length_cons, List.length_nil, List.map_cons, List.map_nil, List.cons_append, List.nil_append, List.append_nil, List.replicate, List.getElem?_cons_zero, List.getElem?_cons_succ, List.getElem?_nil, List.set_cons_zero, List.set_cons_succ, Nat.reduceAdd, Nat.reduceSub, Nat.zero_add, if_true, if_false, Bool.false_eq_true, Bool.not_true, Bool.not_false, true_and, and_true, List.forall_mem_cons, List.mem_cons, List.not_mem_nil, or_false, forall_eq_or_imp, forall_eq, false_and, and_false, implies_true, false_or, Option.map_some, Option.map_none, ite_self, Bool.and_true, Bool.true_and, Bool.and_false, Bool.false_and, List.forall_mem_nil, decide_true, decide_false, isNonD, signsD]
      refine same_of (ha.2 _ (List.getElem_mem hj)) rfl ?_
      simp -dsimp only [↓W_var, ↓W_var1, ↓W_var2, ↓W_var3, ↓W_c, ↓W_frz, ↓W_frz1, ↓W_frz2, ↓W_frz3, ↓W_frz4, ↓W_op, ↓W_call, ↓W_fn, ↓W_fn0, ↓W_fnK, ↓W_nil, ↓W_cons, ↓W_add1, ↓W_add2, ↓W_add3, ↓W_add4, ↓W_add5, ↓W_add6, ↓W_add7, ↓W_int, ↓W_int0, ↓W_mul1, ↓W_mul2, ↓W_eq1, ↓W_eq2, ↓W_eq3, ↓W_eq4, ↓W_ne1, ↓W_ne2, ↓W_ne3, ↓W_in1, ↓W_in2, ↓W_in3, ↓W_in4, ↓W_in5, ↓W_is1, ↓W_is2, ↓W_at, ↓W_atS, ↓W_ix1, ↓W_ix2, ↓W_ix3, ↓W_ix4, ↓W_sl, ↓W_on, ↓W_os, ↓W_part, ↓W_sl1, ↓W_sl2, ↓W_sl3, ↓W_sl4, ↓W_len1, ↓W_len2, ↓W_len3, ↓W_len4, ↓W_abs, ↓W_intf, ↓W_strf, ↓W_list1, ↓W_list2, ↓W_list3, ↓W_tup1, ↓W_tup2, ↓W_tup3, ↓W_max, ↓W_min, ↓W_allK, ↓W_all1, ↓W_isi1, ↓W_isi2, ↓W_k_ns, ↓W_k_bs, ↓W_k_is, ↓W_k_ss, ↓W_k_ts, ↓W_k_ls, ↓W_k_nb, ↓W_k_bb, ↓W_k_ib, ↓W_k_sb, ↓W_k_tb, ↓W_k_lb, ↓W_k_ni, ↓W_k_bi, ↓W_k_ii, ↓W_k_si, ↓W_k_ti, ↓W_k_li, ↓W_k_nt, ↓W_k_bt, ↓W_k_it, ↓W_k_st, ↓W_k_tt, ↓W_k_lt, ↓W_k_nl, ↓W_k_bl, ↓W_k_il, ↓W_k_sl, ↓W_k_tl, ↓W_k_ll, ↓W_valsK, ↓W_etup, ↓W_elst, ↓W_vals0, ↓W_vals1, ↓W_bool, ↓W_bool1, ↓W_tand, ↓W_tor, ↓W_tnot, ↓W_tru, ↓W_tru1, ↓W_tru2, ↓W_tru3, ↓W_tru4, ↓W_tru5, ↓W_tru6, ↓W_tru7, ↓W_bo, ↓W_eand, ↓W_eor, ↓W_enot, ↓W_ink, ↓W_eneg, ↓W_snil, ↓W_seq, ↓W_asg, ↓W_asg1, ↓W_asg2, ↓W_asg3, ↓W_ret, ↓W_hand1, ↓W_hand2, ↓W_hand3, ↓W_hand4, ↓W_expr, ↓W_if, ↓W_for, ↓W_any, ↓W_it1, ↓W_it2, ↓W_it3, ↓W_rg1, ↓W_lc, ↓W_bn, ↓W_yes, ↓W_ownK, ↓W_mut, ↓W_app, ↓W_ins, ↓W_setK, ↓W_stK, ↓W_setIx, ↓W_strK, ↓W_upper, ↓W_join1, ↓W_start, ↓W_slot1, ↓W_slot2, ↓W_arg1, ↓W_arg2, ↓W_sFrz, ↓W_strb, endsD, wipeE, List.foldr_cons, List.foldr_nil, List.length_cons, List.length_nil, List.map_cons, List.map_nil, List.cons_append, List.nil_append, List.append_nil, List.replicate, List.getElem?_cons_zero, List.getElem?_cons_succ, List.getElem?_nil, List.set_cons_zero, List.set_cons_succ, Nat.reduceAdd, Nat.reduceSub, Nat.zero_add, if_true, if_false, Bool.false_eq_true, Bool.not_true, Bool.not_false, true_and, and_true, List.forall_mem_cons, List.mem_cons, List.not_mem_nil, or_false, forall_eq_or_imp, forall_eq, false_and, and_false, implies_true, false_or, Option.map_some, Option.map_none, ite_self, Bool.and_true, Bool.true_and, Bool.and_false, Bool.false_and, List.forall_mem_nil, decide_true, decide_false, isNonD, signsD]
      exact hN _ ⟨_, rfl⟩
    case B =>
      subst e
      simp -dsimp only [↓W_var, ↓W_var1, ↓W_var2, ↓W_var3, ↓W_c, ↓W_frz, ↓W_frz1, ↓W_frz2, ↓W_frz3, ↓W_frz4, ↓W_op, ↓W_call, ↓W_fn, ↓W_fn0, ↓W_fnK, ↓W_nil, ↓W_cons, ↓W_add1, ↓W_add2, ↓W_add3, ↓W_add4, ↓W_add5, ↓W_add6, ↓W_add7, ↓W_int, ↓W_int0, ↓W_mul1, ↓W_mul2, ↓W_eq1, ↓W_eq2, ↓W_eq3, ↓W_eq4, ↓W_ne1, ↓W_ne2, ↓W_ne3, ↓W_in1, ↓W_in2, ↓W_in3, ↓W_in4, ↓W_in5, ↓W_is1, ↓W_is2, ↓W_at, ↓W_atS, ↓W_ix1, ↓W_ix2, ↓W_ix3, ↓W_ix4, ↓W_sl, ↓W_on, ↓W_os, ↓W_part, ↓W_sl1, ↓W_sl2, ↓W_sl3, ↓W_sl4, ↓W_len1, ↓W_len2, ↓W_len3, ↓W_len4, ↓W_abs, ↓W_intf, ↓W_strf, ↓W_list1, ↓W_list2, ↓W_list3, ↓W_tup1, ↓W_tup2, ↓W_tup3, ↓W_max, ↓W_min, ↓W_allK, ↓W_all1, ↓W_isi1, ↓W_isi2, ↓W_k_ns, ↓W_k_bs, ↓W_k_is, ↓W_k_ss, ↓W_k_ts, ↓W_k_ls, ↓W_k_nb, ↓W_k_bb, ↓W_k_ib, ↓W_k_sb, ↓W_k_tb, ↓W_k_lb, ↓W_k_ni, ↓W_k_bi, ↓W_k_ii, ↓W_k_si, ↓W_k_ti, ↓W_k_li, ↓W_k_nt, ↓W_k_bt, ↓W_k_it, ↓W_k_st, ↓W_k_tt, ↓W_k_lt, ↓W_k_nl, ↓W_k_bl, ↓W_k_il, ↓W_k_sl, ↓W_k_tl, ↓W_k_ll, ↓W_valsK, ↓W_etup, ↓W_elst, ↓W_vals0, ↓W_vals1, ↓W_bool, ↓W_bool1, ↓W_tand, ↓W_tor, ↓W_tnot, ↓W_tru, ↓W_tru1, ↓W_tru2, ↓W_tru3, ↓W_tru4, ↓W_tru5, ↓W_tru6, ↓W_tru7, ↓W_bo, ↓W_eand, ↓W_eor, ↓W_enot, ↓W_ink, ↓W_eneg, ↓W_snil, ↓W_seq, ↓W_asg, ↓W_asg1, ↓W_asg2, ↓W_asg3, ↓W_ret, ↓W_hand1, ↓W_hand2, ↓W_hand3, ↓W_hand4, ↓W_expr, ↓W_if, ↓W_for, ↓W_any, ↓W_it1, ↓W_it2, ↓W_it3, ↓W_rg1, ↓W_lc, ↓W_bn, ↓W_yes, ↓W_ownK, ↓W_mut, ↓W_app, ↓W_ins, ↓W_setK, ↓W_stK, ↓W_setIx, ↓W_strK, ↓W_upper, ↓W_join1, ↓W_start, ↓W_slot1, ↓W_slot2, ↓W_arg1, ↓W_arg2, ↓W_sFrz, ↓W_strb, endsD, wipeE, List.foldr_cons, List.foldr_nil, List.length_cons, List.length_nil, List.map_cons, List.map_nil, List.cons_append, List.nil_append, List.append_nil, List.replicate, List.getElem?_cons_zero, List.getElem?_cons_succ, List.getElem?_nil, List.set_cons_zero, List.set_cons_succ, Nat.reduceAdd, Nat.reduceSub, Nat.zero_add, if_true, if_false, Bool.false_eq_true, Bool.not_true, Bool.not_false, true_and, and_true, List.forall_mem_cons, List.mem_cons, List.not_mem_nil, or_false, forall_eq_or_imp, forall_eq, false_and, and_false, implies_true, false_or, Option.map_some, Option.map_none, ite_self, Bool.and_true, Bool.true_and, Bool.and_false, Bool.false_and, List.forall_mem_nil, decide_true, decide_false, isNonD, signsD]
      exact h
  | lst ds => 
    simp -dsimp only [↓W_var, ↓W_var1, ↓W_var2, ↓W_var3, ↓W_c, ↓W_frz, ↓W_frz1, ↓W_frz2, ↓W_frz3, ↓W_frz4, ↓W_op, ↓W_call, ↓W_fn, ↓W_fn0, ↓W_fnK, ↓W_nil, ↓W_cons, ↓W_add1, ↓W_add2, ↓W_add3, ↓W_add4, ↓W_add5, ↓W_add6, ↓W_add7, ↓W_int, ↓W_int0, ↓W_mul1, ↓W_mul2, ↓W_eq1, ↓W_eq2, ↓W_eq3, ↓W_eq4, ↓W_ne1, ↓W_ne2, ↓W_ne3, ↓W_in1, ↓W_in2, ↓W_in3, ↓W_in4, ↓W_in5, ↓W_is1, ↓W_is2, ↓W_at, ↓W_atS, ↓W_ix1, ↓W_ix2, ↓W_ix3, ↓W_ix4, ↓W_sl, ↓W_on, ↓W_os, ↓W_part, ↓W_sl1, ↓W_sl2, ↓W_sl3, ↓W_sl4, ↓W_len1, ↓W_len2, ↓W_len3, ↓W_len4, ↓W_abs, ↓W_intf, ↓W_strf, ↓W_list1, ↓W_list2, ↓W_list3, ↓W_tup1, ↓W_tup2, ↓W_tup3, ↓W_max, ↓W_min, ↓W_allK, ↓W_all1, ↓W_isi1, ↓W_isi2, ↓W_k_ns, ↓W_k_bs, ↓W_k_is, ↓W_k_ss, ↓W_k_ts, ↓W_k_ls, ↓W_k_nb, ↓W_k_bb, ↓W_k_ib, ↓W_k_sb, ↓W_k_tb, ↓W_k_lb, ↓W_k_ni, ↓W_k_bi, ↓W_k_ii, ↓W_k_si, ↓W_k_ti, ↓W_k_li, ↓W_k_nt, ↓W_k_bt, ↓W_k_it, ↓W_k_st, ↓W_k_tt, ↓W_k_lt, ↓W_k_nl, ↓W_k_bl, ↓W_k_il, ↓W_k_sl, ↓W_k_tl, ↓W_k_ll, ↓W_valsK, ↓W_etup, ↓W_elst, ↓W_vals0, ↓W_vals1, ↓W_bool, ↓W_bool1, ↓W_tand, ↓W_tor, ↓W_tnot, ↓W_tru, ↓W_tru1, ↓W_tru2, ↓W_tru3, ↓W_tru4, ↓W_tru5, ↓W_tru6, ↓W_tru7, ↓W_bo, ↓W_eand, ↓W_eor, ↓W_enot, ↓W_ink, ↓W_eneg, ↓W_snil, ↓W_seq, ↓W_asg, ↓W_asg1, ↓W_asg2, ↓W_asg3, ↓W_ret, ↓W_hand1, ↓W_hand2, ↓W_hand3, ↓W_hand4, ↓W_expr, ↓W_if, ↓W_for, ↓W_any, ↓W_it1, ↓W_it2, ↓W_it3, ↓W_rg1, ↓W_lc, ↓W_bn, ↓W_yes, ↓W_ownK, ↓W_mut, ↓W_app, ↓W_ins, ↓W_setK, ↓W_stK, ↓W_setIx, ↓W_strK, ↓W_upper, ↓W_join1, ↓W_start, ↓W_slot1, ↓W_slot2, ↓W_arg1, ↓W_arg2, ↓W_sFrz, ↓W_strb, endsD, wipeE, List.foldr_cons, List.foldr_nil, List.length_cons, List.length_nil, List.map_cons, List.map_nil, List.cons_append, List.nil_append, List.append_nil, List.replicate, List.getElem?_cons_zero, List.getElem?_cons_succ, List.getElem?_nil, List.set_cons_zero, List.set_cons_succ, Nat.reduceAdd, Nat.reduceSub, Nat.zero_add, if_true, if_false, Bool.false_eq_true, Bool.not_true, Bool.not_false, true_and, and_true, List.forall_mem_cons, List.mem_cons, List.not_mem_nil, or_false, forall_eq_or_imp, forall_eq, false_and, and_false, implies_true, false_or, Option.map_some, Option.map_none, ite_self, Bool.and_true, Bool.true_and, Bool.and_false, Bool.false_and, List.forall_mem_nil, decide_true, decide_false, isNonD, signsD]
    have hl1 : ds.length ≤ 1000 := ha.1
    refine ⟨by omega, by omega, nn_of (by rw [range_len, Int.toNat_natCast]; exact ha.1), ?_⟩
    refine forW_inv (fun i env => ∃ z : Option SV, env = [some (.val (.lst ds)), some (.val (.lst ds)), z]) (fun i d env N hi ⟨z, e⟩ hN => ?A) (fun env ⟨z, e⟩ => ?B) _ ⟨_, rfl⟩
    case A =>
      subst e
      obtain ⟨hj, rfl⟩ := range_at hi
      rw [Int.toNat_natCast] at hj
      simp -dsimp only [↓W_var, ↓W_var1, ↓W_var2, ↓W_var3, ↓W_c, ↓W_frz, ↓W_frz1, ↓W_frz2, ↓W_frz3, ↓W_frz4, ↓W_op, ↓W_call, ↓W_fn, ↓W_fn0, ↓W_fnK, ↓W_nil, ↓W_cons, ↓W_add1, ↓W_add2, ↓W_add3, ↓W_add4, ↓W_add5, ↓W_add6, ↓W_add7, ↓W_int, ↓W_int0, ↓W_mul1, ↓W_mul2, ↓W_eq1, ↓W_eq2, ↓W_eq3, ↓W_eq4, ↓W_ne1, ↓W_ne2, ↓W_ne3, ↓W_in1, ↓W_in2, ↓W_in3, ↓W_in4, ↓W_in5, ↓W_is1, ↓W_is2, ↓W_at, ↓W_atS, ↓W_ix1, ↓W_ix2, ↓W_ix3, ↓W_ix4, ↓W_sl, ↓W_on, ↓W_os, ↓W_part, ↓W_sl1, ↓W_sl2, ↓W_sl3, ↓W_sl4, ↓W_len1, ↓W_len2, ↓W_len3, ↓W_len4, ↓W_abs, ↓W_intf, ↓W_strf, ↓W_list1, ↓W_list2, ↓W_list3, ↓W_tup1, ↓W_tup2, ↓W_tup3, ↓W_max, ↓W_min, ↓W_allK, ↓W_all1, ↓W_isi1, ↓W_isi2, ↓W_k_ns, ↓W_k_bs, ↓W_k_is, ↓W_k_ss, ↓W_k_ts, ↓W_k_ls, ↓W_k_nb, ↓W_k_bb, ↓W_k_ib, ↓W_k_sb, ↓W_k_tb, ↓W_k_lb, ↓W_k_ni, ↓W_k_bi, ↓W_k_ii, ↓W_k_si, ↓W_k_ti, ↓W_k_li, ↓W_k_nt, ↓W_k_bt, ↓W_k_it, ↓W_k_st, ↓W_k_tt, ↓W_k_lt, ↓W_k_nl, ↓W_k_bl, ↓W_k_il, ↓W_k_sl, ↓W_k_tl, ↓W_k_ll, ↓W_valsK, ↓W_etup, ↓W_elst, ↓W_vals0, ↓W_vals1, ↓W_bool, ↓W_bool1, ↓W_tand, ↓W_tor, ↓W_tnot, ↓W_tru, ↓W_tru1, ↓W_tru2, ↓W_tru3, ↓W_tru4, ↓W_tru5, ↓W_tru6, ↓W_tru7, ↓W_bo, ↓W_eand, ↓W_eor, ↓W_enot, ↓W_ink, ↓W_eneg, ↓W_snil, ↓W_seq, ↓W_asg, ↓W_asg1, ↓W_asg2, ↓W_asg3, ↓W_ret, ↓W_hand1, ↓W_hand2, ↓W_hand3, ↓W_hand4, ↓W_expr, ↓W_if, ↓W_for, ↓W_any, ↓W_it1, ↓W_it2, ↓W_it3, ↓W_rg1, ↓W_lc, ↓W_bn, ↓W_yes, ↓W_ownK, ↓W_mut, ↓W_app, ↓W_ins, ↓W_setK, ↓W_stK, ↓W_setIx, ↓W_strK, ↓W_upper, ↓W_join1, ↓W_start, ↓W_slot1, ↓W_slot2, ↓W_arg1, ↓W_arg2, ↓W_sFrz, ↓W_strb, endsD, wipeE, List.foldr_cons, List.foldr_nil, List.length_cons, List.length_nil, List.map_cons, List.map_nil, List.cons_append, List.nil_append, List.append_nil, List.replicate, List.getElem?_cons_zero, List.getElem?_cons_succ, List.getElem?_nil, List.set_cons_zero, List.set_cons_succ, Nat.reduceAdd, Nat.reduceSub, Nat.zero_add, if_true, if_false, Bool.false_eq_true, Bool.not_true, Bool.not_false, true_and, and_true, List.forall_mem_cons, List.mem_cons, List.not_mem_nil, or_false, forall_eq_or_imp, forall_eq, false_and, and_false, implies_true, false_or, Option.map_some, Option.map_none, ite_self, Bool.and_true, Bool.true_and, Bool.and_false, Bool.false_and, List.forall_mem_nil, decide_true, decide_false, isNonD, signsD]
      have e2 : ds[i]? = some (ds[i]'hj) := List.getElem?_eq_getElem hj
      rw [Int.zero_add]
      refine atK_at e2 ?_
      simp -dsimp only [↓W_var, ↓W_var1, ↓W_var2, ↓W_var3, ↓W_c, ↓W_frz, ↓W_frz1, ↓W_frz2, ↓W_frz3, ↓W_frz4, ↓W_op, ↓W_call, ↓W_fn, ↓W_fn0, ↓W_fnK, ↓W_nil, ↓W_cons, ↓W_add1, ↓W_add2, ↓W_add3, ↓W_add4, ↓W_add5, ↓W_add6, ↓W_add7, ↓W_int, ↓W_int0, ↓W_mul1, ↓W_mul2, ↓W_eq1, ↓W_eq2, ↓W_eq3, ↓W_eq4, ↓W_ne1, ↓W_ne2, ↓W_ne3, ↓W_in1, ↓W_in2, ↓W_in3, ↓W_in4, ↓W_in5, ↓W_is1, ↓W_is2, ↓W_at, ↓W_atS, ↓W_ix1, ↓W_ix2, ↓W_ix3, ↓W_ix4, ↓W_sl, ↓W_on, ↓W_os, ↓W_part, ↓W_sl1, ↓W_sl2, ↓W_sl3, ↓W_sl4, ↓W_len1, ↓W_len2, ↓W_len3, ↓W_len4, ↓W_abs, ↓W_intf, ↓W_strf, ↓W_list1, ↓W_list2, ↓W_list3, ↓W_tup1, ↓W_tup2, ↓W_tup3, ↓W_max, ↓W_min, ↓W_allK, ↓W_all1, ↓W_isi1, ↓W_isi2, ↓W_k_ns, ↓W_k_bs, ↓W_k_is, ↓W_k_ss, ↓W_k_ts, ↓W_k_ls, ↓W_k_nb, ↓W_k_bb, ↓W_k_ib, ↓W_k_sb, ↓W_k_tb, ↓W_k_lb, ↓W_k_ni, ↓W_k_bi, ↓W_k_ii, ↓W_k_si, ↓W_k_ti, ↓W_k_li, ↓W_k_nt, ↓W_k_bt, ↓W_k_it, ↓W_k_st, ↓W_k_tt, ↓W_k_lt, ↓W_k_nl, ↓W_k_bl, ↓W_k_il, ↓W_k_sl, ↓W_k_tl, ↓W_k_ll, ↓W_valsK, ↓W_etup, ↓W_elst, ↓W_vals0, ↓W_vals1, ↓W_bool, ↓W_bool1, ↓W_tand, ↓W_tor, ↓W_tnot, ↓W_tru, ↓W_tru1, ↓W_tru2, ↓W_tru3, ↓W_tru4, ↓W_tru5, ↓W_tru6, ↓W_tru7, ↓W_bo, ↓W_eand, ↓W_eor, ↓W_enot, ↓W_ink, ↓W_eneg, ↓W_snil, ↓W_seq, ↓W_asg, ↓W_asg1, ↓W_asg2, ↓W_asg3, ↓W_ret, ↓W_hand1, ↓W_hand2, ↓W_hand3, ↓W_hand4, ↓W_expr, ↓W_if, ↓W_for, ↓W_any, ↓W_it1, ↓W_it2, ↓W_it3, ↓W_rg1, ↓W_lc, ↓W_bn, ↓W_yes, ↓W_ownK, ↓W_mut, ↓W_app, ↓W_ins, ↓W_setK, ↓W_stK, ↓W_setIx, ↓W_strK, ↓W_upper, ↓W_join1, ↓W_start, ↓W_slot1, ↓W_slot2, ↓W_arg1, ↓W_arg2, ↓W_sFrz, ↓W_strb, endsD, wipeE, List.foldr_cons, List.foldr_nil, List.length_cons, List.length_nil, List.map_cons, List.map_nil, List.cons_append, List.nil_append, List.append_nil, List.replicate, List.getElem?_cons_zero, List.getElem?_cons_succ, List.getElem?_nil, List.set_cons_zero, List.set_cons_succ, Nat.reduceAdd, Nat.reduceSub, Nat.zero_add, if_true, if_false, Bool.false_eq_true, Bool.not_true, Bool.not_false, true_and, and_true, List.forall_mem_cons, List.mem_cons, List.not_mem_nil, or_false, forall_eq_or_imp, forall_eq, false_and, and_false, implies_true, false_or, Option.map_some, Option.map_none, ite_self, Bool.and_true, Bool.true_and, Bool.and_false, Bool.false_and, List.forall_mem_nil, decide_true, decide_false, isNonD, signsD]
      refine atK_at e2 ?_
      simp -dsimp only [↓W_var, ↓W_var1, ↓W_var2, ↓W_var3, ↓W_c, ↓W_frz, ↓W_frz1, ↓W_frz2, ↓W_frz3, ↓W_frz4, ↓W_op, ↓W_call, ↓W_fn, ↓W_fn0, ↓W_fnK, ↓W_nil, ↓W_cons, ↓W_add1, ↓W_add2, ↓W_add3, ↓W_add4, ↓W_add5, ↓W_add6, ↓W_add7, ↓W_int, ↓W_int0, ↓W_mul1, ↓W_mul2, ↓W_eq1, ↓W_eq2, ↓W_eq3, ↓W_eq4, ↓W_ne1, ↓W_ne2, ↓W_ne3, ↓W_in1, ↓W_in2, ↓W_in3, ↓W_in4, ↓W_in5, ↓W_is1, ↓W_is2, ↓W_at, ↓W_atS, ↓W_ix1, ↓W_ix2, ↓W_ix3, ↓W_ix4, ↓W_sl, ↓W_on, ↓W_os, ↓W_part, ↓W_sl1, ↓W_sl2, ↓W_sl3, ↓W_sl4, ↓W_len1, ↓W_len2, ↓W_len3, ↓W_len4, ↓W_abs, ↓W_intf, ↓W_strf, ↓W_list1, ↓W_list2, ↓W_list3, ↓W_tup1, ↓W_tup2, ↓W_tup3, ↓W_max, ↓W_min, ↓W_allK, ↓W_all1, ↓W_isi1, ↓W_isi2, ↓W_k_ns, ↓W_k_bs, ↓W_k_is, ↓W_k_ss, ↓W_k_ts, ↓W_k_ls, ↓W_k_nb, ↓W_k_bb, ↓W_k_ib, ↓W_k_sb, ↓W_k_tb, ↓W_k_lb, ↓W_k_ni, ↓W_k_bi, ↓W_k_ii, ↓W_k_si, ↓W_k_ti, ↓W_k_li, ↓W_k_nt, ↓W_k_bt, ↓W_k_it, ↓W_k_st, ↓W_k_tt, ↓W_k_lt, ↓W_k_nl, ↓W_k_bl, ↓W_k_il, ↓W_k_sl, ↓W_k_tl, ↓W_k_ll, ↓W_valsK, ↓W_etup, ↓W_elst, ↓W_vals0, ↓W_vals1, ↓W_bool, ↓W_bool1, ↓W_tand, ↓W_tor, ↓W_tnot, ↓W_tru, ↓W_tru1, ↓W_tru2, ↓W_tru3, ↓W_tru4, ↓W_tru5, ↓W_tru6, ↓W_tru7, ↓W_bo, ↓W_eand, ↓W_eor, ↓W_enot, ↓W_ink, ↓W_eneg, ↓W_snil, ↓W_seq, ↓W_asg, ↓W_asg1, ↓W_asg2, ↓W_asg3, ↓W_ret, ↓W_hand1, ↓W_hand2, ↓W_hand3, ↓W_hand4, ↓W_expr, ↓W_if, ↓W_for, ↓W_any, ↓W_it1, ↓W_it2, ↓W_it3, ↓W_rg1, ↓W_lc, ↓W_bn, ↓W_yes, ↓W_ownK, ↓W_mut, ↓W_app, ↓W_ins, ↓W_setK, ↓W_stK, ↓W_setIx, ↓W_strK, ↓W_upper, ↓W_join1, ↓W_start, ↓W_slot1, ↓W_slot2, ↓W_arg1, ↓W_arg2, ↓W_sFrz, ↓W_strb, endsD, wipeE, List.foldr_cons, List.foldr_nil, List.length_cons, List.length_nil, List.map_cons, List.map_nil, List.cons_append, List.nil_append, List.append_nil, List.replicate, List.getElem?_cons_zero, List.getElem?_cons_succ, List.getElem?_nil, List.set_cons_zero, List.set_cons_succ, Nat.reduceAdd, Nat.reduceSub, Nat.zero_add, if_true, if_false, Bool.false_eq_true, Bool.not_true, Bool.not_false, true_and, and_true, List.forall_mem_cons, List.mem_cons, List.not_mem_nil, or_false, forall_eq_or_imp, forall_eq, false_and, and_false, implies_true, false_or, Option.map_some, Option.map_none, ite_self, Bool.and_true, Bool.true_and, Bool.and_false, Bool.false_and, List.forall_mem_nil, decide_true, decide_false, isNonD, signsD]
      refine same_of (ha.2 _ (List.getElem_mem hj)) rfl ?_
      simp -dsimp only [↓W_var, ↓W_var1, ↓W_var2, ↓W_var3, ↓W_c, ↓W_frz, ↓W_frz1, ↓W_frz2, ↓W_frz3, ↓W_frz4, ↓W_op, ↓W_call, ↓W_fn, ↓W_fn0, ↓W_fnK, ↓W_nil, ↓W_cons, ↓W_add1, ↓W_add2, ↓W_add3, ↓W_add4, ↓W_add5, ↓W_add6, ↓W_add7, ↓W_int, ↓W_int0, ↓W_mul1, ↓W_mul2, ↓W_eq1, ↓W_eq2, ↓W_eq3, ↓W_eq4, ↓W_ne1, ↓W_ne2, ↓W_ne3, ↓W_in1, ↓W_in2, ↓W_in3, ↓W_in4, ↓W_in5, ↓W_is1, ↓W_is2, ↓W_at, ↓W_atS, ↓W_ix1, ↓W_ix2, ↓W_ix3, ↓W_ix4, ↓W_sl, ↓W_on, ↓W_os, ↓W_part, ↓W_sl1, ↓W_sl2, ↓W_sl3, ↓W_sl4, ↓W_len1, ↓W_len2, ↓W_len3, ↓W_len4, ↓W_abs, ↓W_intf, ↓W_strf, ↓W_list1, ↓W_list2, ↓W_list3, ↓W_tup1, ↓W_tup2, ↓W_tup3, ↓W_max, ↓W_min, ↓W_allK, ↓W_all1, ↓W_isi1, ↓W_isi2, ↓W_k_ns, ↓W_k_bs, ↓W_k_is, ↓W_k_ss, ↓W_k_ts, ↓W_k_ls, ↓W_k_nb, ↓W_k_bb, ↓W_k_ib, ↓W_k_sb, ↓W_k_tb, ↓W_k_lb, ↓W_k_ni, ↓W_k_bi, ↓W_k_ii, ↓W_k_si, ↓W_k_ti, ↓W_k_li, ↓W_k_nt, ↓W_k_bt, ↓W_k_it, ↓W_k_st, ↓W_k_tt, ↓W_k_lt, ↓W_k_nl, ↓W_k_bl, ↓W_k_il, ↓W_k_sl, ↓W_k_tl, ↓W_k_ll, ↓W_valsK, ↓W_etup, ↓W_elst, ↓W_vals0, ↓W_vals1, ↓W_bool, ↓W_bool1, ↓W_tand, ↓W_tor, ↓W_tnot, ↓W_tru, ↓W_tru1, ↓W_tru2, ↓W_tru3, ↓W_tru4, ↓W_tru5, ↓W_tru6, ↓W_tru7, ↓W_bo, ↓W_eand, ↓W_eor, ↓W_enot, ↓W_ink, ↓W_eneg, ↓W_snil, ↓W_seq, ↓W_asg, ↓W_asg1, ↓W_asg2, ↓W_asg3, ↓W_ret, ↓W_hand1, ↓W_hand2, ↓W_hand3, ↓W_hand4, ↓W_expr, ↓W_if, ↓W_for, ↓W_any, ↓W_it1, ↓W_it2, ↓W_it3, ↓W_rg1, ↓W_lc, ↓W_bn, ↓W_yes, ↓W_ownK, ↓W_mut, ↓W_app, ↓W_ins, ↓W_setK, ↓W_stK, ↓W_setIx, ↓W_strK, ↓W_upper, ↓W_join1, ↓W_start, ↓W_slot1, ↓W_slot2, ↓W_arg1, ↓W_arg2, ↓W_sFrz, ↓W_strb, endsD, wipeE, List.foldr_cons, List.foldr_nil, List.length_cons, List.length_nil, List.map_cons, List.map_nil, List.cons_append, List.nil_append, List.append_nil, List.replicate, List.getElem?_cons_zero, List.getElem?_cons_succ, List.getElem?_nil, List.set_cons_zero, List.set_cons_succ, Nat.reduceAdd, Nat.reduceSub, Nat.zero_add, if_true, if_false, Bool.false_eq_true, Bool.not_true, Bool.not_false, true_and, and_true, List.forall_mem_cons, List.mem_cons, List.not_mem_nil, or_false, forall_eq_or_imp, forall_eq, false_and, and_false, implies_true, false_or, Option.map_some, Option.map_none, ite_self, Bool.and_true, Bool.true_and, Bool.and_false, Bool.false_and, List.forall_mem_nil, decide_true, decide_false, isNonD, signsD]
      exact hN _ ⟨_, rfl⟩
    case B =>
      subst e
      simp -dsimp only [↓W_var, ↓W_var1, ↓W_var2, ↓W_var3, ↓W_c, ↓W_frz, ↓W_frz1, ↓W_frz2, ↓W_frz3, ↓W_frz4, ↓W_op, ↓W_call, ↓W_fn, ↓W_fn0, ↓W_fnK, ↓W_nil, ↓W_cons, ↓W_add1, ↓W_add2, ↓W_add3, ↓W_add4, ↓W_add5, ↓W_add6, ↓W_add7, ↓W_int, ↓W_int0, ↓W_mul1, ↓W_mul2, ↓W_eq1, ↓W_eq2, ↓W_eq3, ↓W_eq4, ↓W_ne1, ↓W_ne2, ↓W_ne3, ↓W_in1, ↓W_in2, ↓W_in3, ↓W_in4, ↓W_in5, ↓W_is1, ↓W_is2, ↓W_at, ↓W_atS, ↓W_ix1, ↓W_ix2, ↓W_ix3, ↓W_ix4, ↓W_sl, ↓W_on, ↓W_os, ↓W_part, ↓W_sl1, ↓W_sl2, ↓W_sl3, ↓W_sl4, ↓W_len1, ↓W_len2, ↓W_len3, ↓W_len4, ↓W_abs, ↓W_intf, ↓W_strf, ↓W_list1, ↓W_list2, ↓W_list3, ↓W_tup1, ↓W_tup2, ↓W_tup3, ↓W_max, ↓W_min, ↓W_allK, ↓W_all1, ↓W_isi1, ↓W_isi2, ↓W_k_ns, ↓W_k_bs, ↓W_k_is, ↓W_k_ss, ↓W_k_ts, ↓W_k_ls, ↓W_k_nb, ↓W_k_bb, ↓W_k_ib, ↓W_k_sb, ↓W_k_tb, ↓W_k_lb, ↓W_k_ni, ↓W_k_bi, ↓W_k_ii, ↓W_k_si, ↓W_k_ti, ↓W_k_li, ↓W_k_nt, ↓W_k_bt, ↓W_k_it, ↓W_k_st, ↓W_k_tt, ↓W_k_lt, ↓W_k_nl, ↓W_k_bl, ↓W_k_il, ↓W_k_sl, ↓W_k_tl, ↓W_k_ll, ↓W_valsK, ↓W_etup, ↓W_elst, ↓W_vals0, ↓W_vals1, ↓W_bool, ↓W_bool1, ↓W_tand, ↓W_tor, ↓W_tnot, ↓W_tru, ↓W_tru1, ↓W_tru2, ↓W_tru3, ↓W_tru4, ↓W_tru5, ↓W_tru6, ↓W_tru7, ↓W_bo, ↓W_eand, ↓W_eor, ↓W_enot, ↓W_ink, ↓W_eneg, ↓W_snil, ↓W_seq, ↓W_asg, ↓W_asg1, ↓W_asg2, ↓W_asg3, ↓W_ret, ↓W_hand1, ↓W_hand2, ↓W_hand3, ↓W_hand4, ↓W_expr, ↓W_if, ↓W_for, ↓W_any, ↓W_it1, ↓W_it2, ↓W_it3, ↓W_rg1, ↓W_lc, ↓W_bn, ↓W_yes, ↓W_ownK, ↓W_mut, ↓W_app, ↓W_ins, ↓W_setK, ↓W_stK, ↓W_setIx, ↓W_strK, ↓W_upper, ↓W_join1, ↓W_start, ↓W_slot1, ↓W_slot2, ↓W_arg1, ↓W_arg2, ↓W_sFrz, ↓W_strb, endsD, wipeE, List.foldr_cons, List.foldr_nil, List.length_cons, List.length_nil, List.map_cons, List.map_nil, List.cons_append, List.nil_append, List.append_nil, List.replicate, List.getElem?_cons_zero, List.getElem?_cons_succ, List.getElem?_nil, List.set_cons_zero, List.set_cons_succ, Nat.reduceAdd, Nat.reduceSub, Nat.zero_add, if_true, if_false, Bool.false_eq_true, Bool.not_true, Bool.not_false, true_and, and_true, List.forall_mem_cons, List.mem_cons, List.not_mem_nil, or_false, forall_eq_or_imp, forall_eq, false_and, and_false, implies_true, false_or, Option.map_some, Option.map_none, ite_self, Bool.and_true, Bool.true_and, Bool.and_false, Bool.false_and, List.forall_mem_nil, decide_true, decide_false, isNonD, signsD]
      exact h
  | _ => exact ha.elim


/-- an item as the law draws it -/
def SeqN (d : D) : Prop := match d with
  | .tup es => ∀ e ∈ es, isNameD e = true
  | .lst es => ∀ e ∈ es, isNameD e = true
  | _ => True
theorem nameD_deep {n : Nat} {e : D} (h : isNameD e = true) : DeepD (n + 1) e := by
  cases e with
  | str s =>
    have := name_len (s := s) h
    show s.length ≤ 900
    omega
  | _ => exact absurd h (by simp [isNameD])
def sp__law_item : FD := fun rs Q _ => rs = [.sto] ∧ (∀ d, DeepD 2 d → SeqN d → Q (.val d)) ∧ ∀ ds, DeepD 2 (.lst ds) → (∀ e ∈ ds, isNameD e = true) → Q (.own ds)
theorem mono__law_item : MonoF sp__law_item := fun rs Q Q' E E' hq he ⟨h1, h2, h3⟩ => ⟨h1, fun s a b => hq _ (h2 s a b), fun s a b => hq _ (h3 s a b)⟩
theorem flat_deep {n : Nat} {d : D} (h : FlatD d) : DeepD (n + 1) d := by
  cases d <;> first | exact trivial | exact h | exact h.elim
theorem name_deep {n : Nat} {s : Str} (h : isNameS s = true) : DeepD (n + 1) (.str s) := by
  have := name_len h
  show s.length ≤ 900
  omega

theorem ok__law_item (T : Tx K mg A) : FnOk P w K mg base (L2.CX P w) 6 A.a__law_item A.f__law_item ["store"] (spD K 1 sp__law_item) := by
  refine fn_okD T.F__law_item sc__law_item (by decide) (fun cdv A0 outer s H E g hK hr cy => ?_)
  refine ⟨_, _, (dss_cons (ds_asg 1 (de_call cy (ok__law_take T) mono__law_take (hr.mono (by decide)) (by rfl) T.m__law_take T.F__law_take.kp T.b__law_take (da_cons (de_var 0) (da_cons de_int da_nil))) sc__law_item.nd)
    (dss_cons (ds_asg 2 (de_call cy (ok__law_name T) mono__law_name (hr.mono (by decide)) (by rfl) T.m__law_name T.F__law_name.kp T.b__law_name (da_cons (de_var 0) da_nil)) sc__law_item.nd)
    (dss_cons (ds_if (dt_lt cy (de_var 1) de_int) (dss_one (ds_ret (de_var 2))) dss_nil)
    (dss_cons (ds_if (dt_eq cy (de_var 1) de_int) (dss_one (ds_ret (de_call cy (ok__law_badname T) mono__law_badname (hr.mono (by decide)) (by rfl) T.m__law_badname T.F__law_badname.kp T.b__law_badname (da_cons (de_var 0) da_nil)))) dss_nil)
    (dss_cons (ds_if (dt_eq cy (de_var 1) de_int) (dss_cons (ds_asg 3 (de_call cy (ok__law_take T) mono__law_take (hr.mono (by decide)) (by rfl) T.m__law_take T.F__law_take.kp T.b__law_take (da_cons (de_var 0) (da_cons (de_len cy (by rfl) T.m_len (de_var 2)) da_nil))) sc__law_item.nd)
    (dss_one (ds_ret (de_add cy (de_add cy (de_slice cy (de_var 2) do_none (do_some (de_var 3))) (de_call cy (ok__law_pick T) mono__law_pick (hr.mono (by decide)) (by rfl) T.m__law_pick T.F__law_pick.kp T.b__law_pick (da_cons (de_var 0) (da_cons (de_call0 cy (ok__law_signs T) mono__law_signs (hr.mono (by decide)) (by rfl) T.m__law_signs T.F__law_signs.kp T.b__law_signs) da_nil)))) (de_slice cy (de_var 2) (do_some (de_add cy (de_var 3) de_int)) do_none))))) dss_nil)
    (dss_cons (ds_if (dt_eq cy (de_var 1) de_int) (dss_one (ds_ret (de_call cy (ok__law_string T) mono__law_string (hr.mono (by decide)) (by rfl) T.m__law_string T.F__law_string.kp T.b__law_string (da_cons (de_var 0) (da_cons (de_call cy (ok__law_number T) mono__law_number (hr.mono (by decide)) (by rfl) T.m__law_number T.F__law_number.kp T.b__law_number (da_cons (de_var 0) (da_cons de_int (da_cons de_int da_nil)))) da_nil))))) dss_nil)
    (dss_cons (ds_if (dt_eq cy (de_var 1) de_int) (dss_one (ds_ret (de_slice cy (de_mul cy (de_var 2) de_int) do_none (do_some (de_call cy (ok__law_number T) mono__law_number (hr.mono (by decide)) (by rfl) T.m__law_number T.F__law_number.kp T.b__law_number (da_cons (de_var 0) (da_cons de_int (da_cons de_int da_nil)))))))) dss_nil)
    (dss_cons (ds_if (dt_eq cy (de_var 1) de_int) (dss_one (ds_ret (de_call cy (ok__law_inorder T) mono__law_inorder (hr.mono (by decide)) (by rfl) T.m__law_inorder T.F__law_inorder.kp T.b__law_inorder (da_cons (de_var 0) (da_cons (de_lc cy (own := [("k", 4)]) sc__law_item.nd (di_range1 (by rfl) T.m_range (da_cons (de_call cy (ok__law_take T) mono__law_take (hr.mono (by decide)) (by rfl) T.m__law_take T.F__law_take.kp T.b__law_take (da_cons (de_var 0) (da_cons de_int da_nil))) da_nil)) (blkOk_by (own := [("k", 4)]) (N := N__law_item) (sc := defScope s__law_item) (by decide +kernel)) (fun _ _ _ _ _ cy => (dg_name 4 sc__law_item.nd)) (fun _ _ _ _ _ cy => dts_nil) (fun _ _ _ _ _ cy => (de_call cy (ok__law_name T) mono__law_name (hr.mono (by decide)) (by rfl) T.m__law_name T.F__law_name.kp T.b__law_name (da_cons (de_var 0) da_nil)))) da_nil))))) dss_nil)
    (dss_cons (ds_if (dt_eq cy (de_var 1) de_int) (dss_one (ds_ret (de_call cy (ok__law_pick T) mono__law_pick (hr.mono (by decide)) (by rfl) T.m__law_pick T.F__law_pick.kp T.b__law_pick (da_cons (de_var 0) (da_cons (de_lst (da_cons de_bl (da_cons de_bl (da_cons de_non (da_cons de_int (da_cons de_int (da_cons (de_neg cy de_int) (da_cons (de_call cy (ok__law_take T) mono__law_take (hr.mono (by decide)) (by rfl) T.m__law_take T.F__law_take.kp T.b__law_take (da_cons (de_var 0) (da_cons (de_pow cy de_int de_int) da_nil))) (da_cons (de_pow cy de_int de_int) da_nil))))))))) da_nil))))) dss_nil)
    (dss_one (ds_ret (de_call cy (ok__law_string T) mono__law_string (hr.mono (by decide)) (by rfl) T.m__law_string T.F__law_string.kp T.b__law_string (da_cons (de_var 0) (da_cons (de_call cy (ok__law_number T) mono__law_number (hr.mono (by decide)) (by rfl) T.m__law_number T.F__law_number.kp T.b__law_number (da_cons (de_var 0) (da_cons de_int (da_cons de_int da_nil)))) da_nil)))))))))))))), fun rs Q Ex hl h => ?_⟩
  obtain ⟨rfl, h, h'⟩ := h
  simp -dsimp only [↓W_var, ↓W_var1, ↓W_var2, ↓W_var3, ↓W_c, ↓W_frz, ↓W_frz1, ↓W_frz2, ↓W_frz3, ↓W_frz4, ↓W_op, ↓W_call, ↓W_fn, ↓W_fn0, ↓W_fnK, ↓W_nil, ↓W_cons, ↓W_add1, ↓W_add2, ↓W_add3, ↓W_add4, ↓W_add5, ↓W_add6, ↓W_add7, ↓W_int, ↓W_int0, ↓W_mul1, ↓W_mul2, ↓W_eq1, ↓W_eq2, ↓W_eq3, ↓W_eq4, ↓W_ne1, ↓W_ne2, ↓W_ne3, ↓W_in1, ↓W_in2, ↓W_in3, ↓W_in4, ↓W_in5, ↓W_is1, ↓W_is2, ↓W_at, ↓W_atS, ↓W_ix1, ↓W_ix2, ↓W_ix3, ↓W_ix4, ↓W_sl, ↓W_on, ↓W_os, ↓W_part, ↓W_sl1, ↓W_sl2, ↓W_sl3, ↓W_sl4, ↓W_len1, ↓W_len2, ↓W_len3, ↓W_len4, ↓W_abs, ↓W_intf, ↓W_strf, ↓W_list1, ↓W_list2, ↓W_list3, ↓W_tup1, ↓W_tup2, ↓W_tup3, ↓W_max, ↓W_min, ↓W_allK, ↓W_all1, ↓W_isi1, ↓W_isi2, ↓W_k_ns, ↓W_k_bs, ↓W_k_is, ↓W_k_ss, ↓W_k_ts, ↓W_k_ls, ↓W_k_nb, ↓W_k_bb, ↓W_k_ib, ↓W_k_sb, ↓W_k_tb, ↓W_k_lb, ↓W_k_ni, ↓W_k_bi, ↓W_k_ii, ↓W_k_si, ↓W_k_ti, ↓W_k_li, ↓W_k_nt, ↓W_k_bt, ↓W_k_it, ↓W_k_st, ↓W_k_tt, ↓W_k_lt, ↓W_k_nl, ↓W_k_bl, ↓W_k_il, ↓W_k_sl, ↓W_k_tl, ↓W_k_ll, ↓W_valsK, ↓W_etup, ↓W_elst, ↓W_vals0, ↓W_vals1, ↓W_bool, ↓W_bool1, ↓W_tand, ↓W_tor, ↓W_tnot, ↓W_tru, ↓W_tru1, ↓W_tru2, ↓W_tru3, ↓W_tru4, ↓W_tru5, ↓W_tru6, ↓W_tru7, ↓W_bo, ↓W_eand, ↓W_eor, ↓W_enot, ↓W_ink, ↓W_eneg, ↓W_snil, ↓W_seq, ↓W_asg, ↓W_asg1, ↓W_asg2, ↓W_asg3, ↓W_ret, ↓W_hand1, ↓W_hand2, ↓W_hand3, ↓W_hand4, ↓W_expr, ↓W_if, ↓W_for, ↓W_any, ↓W_it1, ↓W_it2, ↓W_it3, ↓W_rg1, ↓W_lc, ↓W_bn, ↓W_yes, ↓W_ownK, ↓W_mut, ↓W_app, ↓W_ins, ↓W_setK, ↓W_stK, ↓W_setIx, ↓W_strK, ↓W_upper, ↓W_join1, ↓W_start, ↓W_slot1, ↓W_slot2, ↓W_arg1, ↓W_arg2, ↓W_sFrz, ↓W_strb, endsD, wipeE, List.foldr_cons, List.foldr_nil, List.length_cons, List.length_nil, List.map_cons, List.map_nil, List.cons_append, List.nil_append, List.append_nil, List.replicate, List.getElem?_cons_zero, List.getElem?_cons_succ, List.getElem?_nil, List.set_cons_zero, List.set_cons_succ, Nat.reduceAdd, Nat.reduceSub, Nat.zero_add, if_true, if_false, Bool.false_eq_true, Bool.not_true, Bool.not_false, true_and, and_true, List.forall_mem_cons, List.mem_cons, List.not_mem_nil, or_false, forall_eq_or_imp, forall_eq, false_and, and_false, implies_true, false_or, Option.map_some, Option.map_none, ite_self, Bool.and_true, Bool.true_and, Bool.and_false, Bool.false_and, List.forall_mem_nil, decide_true, decide_false, isNonD, signsD]
  refine take_of (by decide) fun r r0 _ r1 => ?_
  have r2 := r1 (by decide)
  simp -dsimp only [↓W_var, ↓W_var1, ↓W_var2, ↓W_var3, ↓W_c, ↓W_frz, ↓W_frz1, ↓W_frz2, ↓W_frz3, ↓W_frz4, ↓W_op, ↓W_call, ↓W_fn, ↓W_fn0, ↓W_fnK, ↓W_nil, ↓W_cons, ↓W_add1, ↓W_add2, ↓W_add3, ↓W_add4, ↓W_add5, ↓W_add6, ↓W_add7, ↓W_int, ↓W_int0, ↓W_mul1, ↓W_mul2, ↓W_eq1, ↓W_eq2, ↓W_eq3, ↓W_eq4, ↓W_ne1, ↓W_ne2, ↓W_ne3, ↓W_in1, ↓W_in2, ↓W_in3, ↓W_in4, ↓W_in5, ↓W_is1, ↓W_is2, ↓W_at, ↓W_atS, ↓W_ix1, ↓W_ix2, ↓W_ix3, ↓W_ix4, ↓W_sl, ↓W_on, ↓W_os, ↓W_part, ↓W_sl1, ↓W_sl2, ↓W_sl3, ↓W_sl4, ↓W_len1, ↓W_len2, ↓W_len3, ↓W_len4, ↓W_abs, ↓W_intf, ↓W_strf, ↓W_list1, ↓W_list2, ↓W_list3, ↓W_tup1, ↓W_tup2, ↓W_tup3, ↓W_max, ↓W_min, ↓W_allK, ↓W_all1, ↓W_isi1, ↓W_isi2, ↓W_k_ns, ↓W_k_bs, ↓W_k_is, ↓W_k_ss, ↓W_k_ts, ↓W_k_ls, ↓W_k_nb, ↓W_k_bb, ↓W_k_ib, ↓W_k_sb, ↓W_k_tb, ↓W_k_lb, ↓W_k_ni, ↓W_k_bi, ↓W_k_ii, ↓W_k_si, ↓W_k_ti, ↓W_k_li, ↓W_k_nt, ↓W_k_bt, ↓W_k_it, ↓W_k_st, ↓W_k_tt, ↓W_k_lt, ↓W_k_nl, ↓W_k_bl, ↓W_k_il, ↓W_k_sl, ↓W_k_tl, ↓W_k_ll, ↓W_valsK, ↓W_etup, ↓W_elst, ↓W_vals0, ↓W_vals1, ↓W_bool, ↓W_bool1, ↓W_tand, ↓W_tor, ↓W_tnot, ↓W_tru, ↓W_tru1, ↓W_tru2, ↓W_tru3, ↓W_tru4, ↓W_tru5, ↓W_tru6, ↓W_tru7, ↓W_bo, ↓W_eand, ↓W_eor, ↓W_enot, ↓W_ink, ↓W_eneg, ↓W_snil, ↓W_seq, ↓W_asg, ↓W_asg1, ↓W_asg2, ↓W_asg3, ↓W_ret, ↓W_hand1, ↓W_hand2, ↓W_hand3, ↓W_hand4, ↓W_expr, ↓W_if, ↓W_for, ↓W_any, ↓W_it1, ↓W_it2, ↓W_it3, ↓W_rg1, ↓W_lc, ↓W_bn, ↓W_yes, ↓W_ownK, ↓W_mut, ↓W_app, ↓W_ins, ↓W_setK, ↓W_stK, ↓W_setIx, ↓W_strK, ↓W_upper, ↓W_join1, ↓W_start, ↓W_slot1, ↓W_slot2, ↓W_arg1, ↓W_arg2, ↓W_sFrz, ↓W_strb, endsD, wipeE, List.foldr_cons, List.foldr_nil, List.length_cons, List.length_nil, List.map_cons, List.map_nil, List.cons_append, List.nil_append, List.append_nil, List.replicate, List.getElem?_cons_zero, List.getElem?_cons_succ, List.getElem?_nil, List.set_cons_zero, List.set_cons_succ, Nat.reduceAdd, Nat.reduceSub, Nat.zero_add, if_true, if_false, Bool.false_eq_true, Bool.not_true, Bool.not_false, true_and, and_true, List.forall_mem_cons, List.mem_cons, List.not_mem_nil, or_false, forall_eq_or_imp, forall_eq, false_and, and_false, implies_true, false_or, Option.map_some, Option.map_none, ite_self, Bool.and_true, Bool.true_and, Bool.and_false, Bool.false_and, List.forall_mem_nil, decide_true, decide_false, isNonD, signsD]
  refine ⟨rfl, fun wd hw => ?_⟩
  have ⟨w0, w1⟩ := name_len hw
  simp -dsimp only [↓W_var, ↓W_var1, ↓W_var2, ↓W_var3, ↓W_c, ↓W_frz, ↓W_frz1, ↓W_frz2, ↓W_frz3, ↓W_frz4, ↓W_op, ↓W_call, ↓W_fn, ↓W_fn0, ↓W_fnK, ↓W_nil, ↓W_cons, ↓W_add1, ↓W_add2, ↓W_add3, ↓W_add4, ↓W_add5, ↓W_add6, ↓W_add7, ↓W_int, ↓W_int0, ↓W_mul1, ↓W_mul2, ↓W_eq1, ↓W_eq2, ↓W_eq3, ↓W_eq4, ↓W_ne1, ↓W_ne2, ↓W_ne3, ↓W_in1, ↓W_in2, ↓W_in3, ↓W_in4, ↓W_in5, ↓W_is1, ↓W_is2, ↓W_at, ↓W_atS, ↓W_ix1, ↓W_ix2, ↓W_ix3, ↓W_ix4, ↓W_sl, ↓W_on, ↓W_os, ↓W_part, ↓W_sl1, ↓W_sl2, ↓W_sl3, ↓W_sl4, ↓W_len1, ↓W_len2, ↓W_len3, ↓W_len4, ↓W_abs, ↓W_intf, ↓W_strf, ↓W_list1, ↓W_list2, ↓W_list3, ↓W_tup1, ↓W_tup2, ↓W_tup3, ↓W_max, ↓W_min, ↓W_allK, ↓W_all1, ↓W_isi1, ↓W_isi2, ↓W_k_ns, ↓W_k_bs, ↓W_k_is, ↓W_k_ss, ↓W_k_ts, ↓W_k_ls, ↓W_k_nb, ↓W_k_bb, ↓W_k_ib, ↓W_k_sb, ↓W_k_tb, ↓W_k_lb, ↓W_k_ni, ↓W_k_bi, ↓W_k_ii, ↓W_k_si, ↓W_k_ti, ↓W_k_li, ↓W_k_nt, ↓W_k_bt, ↓W_k_it, ↓W_k_st, ↓W_k_tt, ↓W_k_lt, ↓W_k_nl, ↓W_k_bl, ↓W_k_il, ↓W_k_sl, ↓W_k_tl, ↓W_k_ll, ↓W_valsK, ↓W_etup, ↓W_elst, ↓W_vals0, ↓W_vals1, ↓W_bool, ↓W_bool1, ↓W_tand, ↓W_tor, ↓W_tnot, ↓W_tru, ↓W_tru1, ↓W_tru2, ↓W_tru3, ↓W_tru4, ↓W_tru5, ↓W_tru6, ↓W_tru7, ↓W_bo, ↓W_eand, ↓W_eor, ↓W_enot, ↓W_ink, ↓W_eneg, ↓W_snil, ↓W_seq, ↓W_asg, ↓W_asg1, ↓W_asg2, ↓W_asg3, ↓W_ret, ↓W_hand1, ↓W_hand2, ↓W_hand3, ↓W_hand4, ↓W_expr, ↓W_if, ↓W_for, ↓W_any, ↓W_it1, ↓W_it2, ↓W_it3, ↓W_rg1, ↓W_lc, ↓W_bn, ↓W_yes, ↓W_ownK, ↓W_mut, ↓W_app, ↓W_ins, ↓W_setK, ↓W_stK, ↓W_setIx, ↓W_strK, ↓W_upper, ↓W_join1, ↓W_start, ↓W_slot1, ↓W_slot2, ↓W_arg1, ↓W_arg2, ↓W_sFrz, ↓W_strb, endsD, wipeE, List.foldr_cons, List.foldr_nil, List.length_cons, List.length_nil, List.map_cons, List.map_nil, List.cons_append, List.nil_append, List.append_nil, List.replicate, List.getElem?_cons_zero, List.getElem?_cons_succ, List.getElem?_nil, List.set_cons_zero, List.set_cons_succ, Nat.reduceAdd, Nat.reduceSub, Nat.zero_add, if_true, if_false, Bool.false_eq_true, Bool.not_true, Bool.not_false, true_and, and_true, List.forall_mem_cons, List.mem_cons, List.not_mem_nil, or_false, forall_eq_or_imp, forall_eq, false_and, and_false, implies_true, false_or, Option.map_some, Option.map_none, ite_self, Bool.and_true, Bool.true_and, Bool.and_false, Bool.false_and, List.forall_mem_nil, decide_true, decide_false, isNonD, signsD]
  refine iteB (fun _ => h _ (name_deep hw) trivial) (fun _ => ?_)
  refine iteB (fun _ => ?_) (fun _ => ?_)
  · refine ⟨rfl, fun d hd => ?_⟩
    simp -dsimp only [↓W_var, ↓W_var1, ↓W_var2, ↓W_var3, ↓W_c, ↓W_frz, ↓W_frz1, ↓W_frz2, ↓W_frz3, ↓W_frz4, ↓W_op, ↓W_call, ↓W_fn, ↓W_fn0, ↓W_fnK, ↓W_nil, ↓W_cons, ↓W_add1, ↓W_add2, ↓W_add3, ↓W_add4, ↓W_add5, ↓W_add6, ↓W_add7, ↓W_int, ↓W_int0, ↓W_mul1, ↓W_mul2, ↓W_eq1, ↓W_eq2, ↓W_eq3, ↓W_eq4, ↓W_ne1, ↓W_ne2, ↓W_ne3, ↓W_in1, ↓W_in2, ↓W_in3, ↓W_in4, ↓W_in5, ↓W_is1, ↓W_is2, ↓W_at, ↓W_atS, ↓W_ix1, ↓W_ix2, ↓W_ix3, ↓W_ix4, ↓W_sl, ↓W_on, ↓W_os, ↓W_part, ↓W_sl1, ↓W_sl2, ↓W_sl3, ↓W_sl4, ↓W_len1, ↓W_len2, ↓W_len3, ↓W_len4, ↓W_abs, ↓W_intf, ↓W_strf, ↓W_list1, ↓W_list2, ↓W_list3, ↓W_tup1, ↓W_tup2, ↓W_tup3, ↓W_max, ↓W_min, ↓W_allK, ↓W_all1, ↓W_isi1, ↓W_isi2, ↓W_k_ns, ↓W_k_bs, ↓W_k_is, ↓W_k_ss, ↓W_k_ts, ↓W_k_ls, ↓W_k_nb, ↓W_k_bb, ↓W_k_ib, ↓W_k_sb, ↓W_k_tb, ↓W_k_lb, ↓W_k_ni, ↓W_k_bi, ↓W_k_ii, ↓W_k_si, ↓W_k_ti, ↓W_k_li, ↓W_k_nt, ↓W_k_bt, ↓W_k_it, ↓W_k_st, ↓W_k_tt, ↓W_k_lt, ↓W_k_nl, ↓W_k_bl, ↓W_k_il, ↓W_k_sl, ↓W_k_tl, ↓W_k_ll, ↓W_valsK, ↓W_etup, ↓W_elst, ↓W_vals0, ↓W_vals1, ↓W_bool, ↓W_bool1, ↓W_tand, ↓W_tor, ↓W_tnot, ↓W_tru, ↓W_tru1, ↓W_tru2, ↓W_tru3, ↓W_tru4, ↓W_tru5, ↓W_tru6, ↓W_tru7, ↓W_bo, ↓W_eand, ↓W_eor, ↓W_enot, ↓W_ink, ↓W_eneg, ↓W_snil, ↓W_seq, ↓W_asg, ↓W_asg1, ↓W_asg2, ↓W_asg3, ↓W_ret, ↓W_hand1, ↓W_hand2, ↓W_hand3, ↓W_hand4, ↓W_expr, ↓W_if, ↓W_for, ↓W_any, ↓W_it1, ↓W_it2, ↓W_it3, ↓W_rg1, ↓W_lc, ↓W_bn, ↓W_yes, ↓W_ownK, ↓W_mut, ↓W_app, ↓W_ins, ↓W_setK, ↓W_stK, ↓W_setIx, ↓W_strK, ↓W_upper, ↓W_join1, ↓W_start, ↓W_slot1, ↓W_slot2, ↓W_arg1, ↓W_arg2, ↓W_sFrz, ↓W_strb, endsD, wipeE, List.foldr_cons, List.foldr_nil, List.length_cons, List.length_nil, List.map_cons, List.map_nil, List.cons_append, List.nil_append, List.append_nil, List.replicate, List.getElem?_cons_zero, List.getElem?_cons_succ, List.getElem?_nil, List.set_cons_zero, List.set_cons_succ, Nat.reduceAdd, Nat.reduceSub, Nat.zero_add, if_true, if_false, Bool.false_eq_true, Bool.not_true, Bool.not_false, true_and, and_true, List.forall_mem_cons, List.mem_cons, List.not_mem_nil, or_false, forall_eq_or_imp, forall_eq, false_and, and_false, implies_true, false_or, Option.map_some, Option.map_none, ite_self, Bool.and_true, Bool.true_and, Bool.and_false, Bool.false_and, List.forall_mem_nil, decide_true, decide_false, isNonD, signsD]
    exact h _ (flat_deep hd) (by cases d <;> first | exact trivial | exact hd.elim)
  refine iteB (fun _ => ?_) (fun _ => ?_)
  · refine ⟨lim_of (by omega), take_of (by omega) fun z z0 _ z1 => ?_⟩
    simp -dsimp only [↓W_var, ↓W_var1, ↓W_var2, ↓W_var3, ↓W_c, ↓W_frz, ↓W_frz1, ↓W_frz2, ↓W_frz3, ↓W_frz4, ↓W_op, ↓W_call, ↓W_fn, ↓W_fn0, ↓W_fnK, ↓W_nil, ↓W_cons, ↓W_add1, ↓W_add2, ↓W_add3, ↓W_add4, ↓W_add5, ↓W_add6, ↓W_add7, ↓W_int, ↓W_int0, ↓W_mul1, ↓W_mul2, ↓W_eq1, ↓W_eq2, ↓W_eq3, ↓W_eq4, ↓W_ne1, ↓W_ne2, ↓W_ne3, ↓W_in1, ↓W_in2, ↓W_in3, ↓W_in4, ↓W_in5, ↓W_is1, ↓W_is2, ↓W_at, ↓W_atS, ↓W_ix1, ↓W_ix2, ↓W_ix3, ↓W_ix4, ↓W_sl, ↓W_on, ↓W_os, ↓W_part, ↓W_sl1, ↓W_sl2, ↓W_sl3, ↓W_sl4, ↓W_len1, ↓W_len2, ↓W_len3, ↓W_len4, ↓W_abs, ↓W_intf, ↓W_strf, ↓W_list1, ↓W_list2, ↓W_list3, ↓W_tup1, ↓W_tup2, ↓W_tup3, ↓W_max, ↓W_min, ↓W_allK, ↓W_all1, ↓W_isi1, ↓W_isi2, ↓W_k_ns, ↓W_k_bs, ↓W_k_is, ↓W_k_ss, ↓W_k_ts, ↓W_k_ls, ↓W_k_nb, ↓W_k_bb, ↓W_k_ib, ↓W_k_sb, ↓W_k_tb, ↓W_k_lb, ↓W_k_ni, ↓W_k_bi, ↓W_k_ii, ↓W_k_si, ↓W_k_ti, ↓W_k_li, ↓W_k_nt, ↓W_k_bt, ↓W_k_it, ↓W_k_st, ↓W_k_tt, ↓W_k_lt, ↓W_k_nl, ↓W_k_bl, ↓W_k_il, ↓W_k_sl, ↓W_k_tl, ↓W_k_ll, ↓W_valsK, ↓W_etup, ↓W_elst, ↓W_vals0, ↓W_vals1, ↓W_bool, ↓W_bool1, ↓W_tand, ↓W_tor, ↓W_tnot, ↓W_tru, ↓W_tru1, ↓W_tru2, ↓W_tru3, ↓W_tru4, ↓W_tru5, ↓W_tru6, ↓W_tru7, ↓W_bo, ↓W_eand, ↓W_eor, ↓W_enot, ↓W_ink, ↓W_eneg, ↓W_snil, ↓W_seq, ↓W_asg, ↓W_asg1, ↓W_asg2, ↓W_asg3, ↓W_ret, ↓W_hand1, ↓W_hand2, ↓W_hand3, ↓W_hand4, ↓W_expr, ↓W_if, ↓W_for, ↓W_any, ↓W_it1, ↓W_it2, ↓W_it3, ↓W_rg1, ↓W_lc, ↓W_bn, ↓W_yes, ↓W_ownK, ↓W_mut, ↓W_app, ↓W_ins, ↓W_setK, ↓W_stK, ↓W_setIx, ↓W_strK, ↓W_upper, ↓W_join1, ↓W_start, ↓W_slot1, ↓W_slot2, ↓W_arg1, ↓W_arg2, ↓W_sFrz, ↓W_strb, endsD, wipeE, List.foldr_cons, List.foldr_nil, List.length_cons, List.length_nil, List.map_cons, List.map_nil, List.cons_append, List.nil_append, List.append_nil, List.replicate, List.getElem?_cons_zero, List.getElem?_cons_succ, List.getElem?_nil, List.set_cons_zero, List.set_cons_succ, Nat.reduceAdd, Nat.reduceSub, Nat.zero_add, if_true, if_false, Bool.false_eq_true, Bool.not_true, Bool.not_false, true_and, and_true, List.forall_mem_cons, List.mem_cons, List.not_mem_nil, or_false, forall_eq_or_imp, forall_eq, false_and, and_false, implies_true, false_or, Option.map_some, Option.map_none, ite_self, Bool.and_true, Bool.true_and, Bool.and_false, Bool.false_and, List.forall_mem_nil, decide_true, decide_false, isNonD, signsD]
    refine ⟨lim_of (by omega), rfl, ?_⟩
    simp -dsimp only [↓W_var, ↓W_var1, ↓W_var2, ↓W_var3, ↓W_c, ↓W_frz, ↓W_frz1, ↓W_frz2, ↓W_frz3, ↓W_frz4, ↓W_op, ↓W_call, ↓W_fn, ↓W_fn0, ↓W_fnK, ↓W_nil, ↓W_cons, ↓W_add1, ↓W_add2, ↓W_add3, ↓W_add4, ↓W_add5, ↓W_add6, ↓W_add7, ↓W_int, ↓W_int0, ↓W_mul1, ↓W_mul2, ↓W_eq1, ↓W_eq2, ↓W_eq3, ↓W_eq4, ↓W_ne1, ↓W_ne2, ↓W_ne3, ↓W_in1, ↓W_in2, ↓W_in3, ↓W_in4, ↓W_in5, ↓W_is1, ↓W_is2, ↓W_at, ↓W_atS, ↓W_ix1, ↓W_ix2, ↓W_ix3, ↓W_ix4, ↓W_sl, ↓W_on, ↓W_os, ↓W_part, ↓W_sl1, ↓W_sl2, ↓W_sl3, ↓W_sl4, ↓W_len1, ↓W_len2, ↓W_len3, ↓W_len4, ↓W_abs, ↓W_intf, ↓W_strf, ↓W_list1, ↓W_list2, ↓W_list3, ↓W_tup1, ↓W_tup2, ↓W_tup3, ↓W_max, ↓W_min, ↓W_allK, ↓W_all1, ↓W_isi1, ↓W_isi2, ↓W_k_ns, ↓W_k_bs, ↓W_k_is, ↓W_k_ss, ↓W_k_ts, ↓W_k_ls, ↓W_k_nb, ↓W_k_bb, ↓W_k_ib, ↓W_k_sb, ↓W_k_tb, ↓W_k_lb, ↓W_k_ni, ↓W_k_bi, ↓W_k_ii, ↓W_k_si, ↓W_k_ti, ↓W_k_li, ↓W_k_nt, ↓W_k_bt, ↓W_k_it, ↓W_k_st, ↓W_k_tt, ↓W_k_lt, ↓W_k_nl, ↓W_k_bl, ↓W_k_il, ↓W_k_sl, ↓W_k_tl, ↓W_k_ll, ↓W_valsK, ↓W_etup, ↓W_elst, ↓W_vals0, ↓W_vals1, ↓W_bool, ↓W_bool1, ↓W_tand, ↓W_tor, ↓W_tnot, ↓W_tru, ↓W_tru1, ↓W_tru2, ↓W_tru3, ↓W_tru4, ↓W_tru5, ↓W_tru6, ↓W_tru7, ↓W_bo, ↓W_eand, ↓W_eor, ↓W_enot, ↓W_ink, ↓W_eneg, ↓W_snil, ↓W_seq, ↓W_asg, ↓W_asg1, ↓W_asg2, ↓W_asg3, ↓W_ret, ↓W_hand1, ↓W_hand2, ↓W_hand3, ↓W_hand4, ↓W_expr, ↓W_if, ↓W_for, ↓W_any, ↓W_it1, ↓W_it2, ↓W_it3, ↓W_rg1, ↓W_lc, ↓W_bn, ↓W_yes, ↓W_ownK, ↓W_mut, ↓W_app, ↓W_ins, ↓W_setK, ↓W_stK, ↓W_setIx, ↓W_strK, ↓W_upper, ↓W_join1, ↓W_start, ↓W_slot1, ↓W_slot2, ↓W_arg1, ↓W_arg2, ↓W_sFrz, ↓W_strb, endsD, wipeE, List.foldr_cons, List.foldr_nil, List.length_cons, List.length_nil, List.map_cons, List.map_nil, List.cons_append, List.nil_append, List.append_nil, List.replicate, List.getElem?_cons_zero, List.getElem?_cons_succ, List.getElem?_nil, List.set_cons_zero, List.set_cons_succ, Nat.reduceAdd, Nat.reduceSub, Nat.zero_add, if_true, if_false, Bool.false_eq_true, Bool.not_true, Bool.not_false, true_and, and_true, List.forall_mem_cons, List.mem_cons, List.not_mem_nil, or_false, forall_eq_or_imp, forall_eq, false_and, and_false, implies_true, false_or, Option.map_some, Option.map_none, ite_self, Bool.and_true, Bool.true_and, Bool.and_false, Bool.false_and, List.forall_mem_nil, decide_true, decide_false, isNonD, signsD]
    refine pick_str (s := SG) (by decide +kernel) (by decide +kernel) fun c _ => ?_
    simp -dsimp only [↓W_var, ↓W_var1, ↓W_var2, ↓W_var3, ↓W_c, ↓W_frz, ↓W_frz1, ↓W_frz2, ↓W_frz3, ↓W_frz4, ↓W_op, ↓W_call, ↓W_fn, ↓W_fn0, ↓W_fnK, ↓W_nil, ↓W_cons, ↓W_add1, ↓W_add2, ↓W_add3, ↓W_add4, ↓W_add5, ↓W_add6, ↓W_add7, ↓W_int, ↓W_int0, ↓W_mul1, ↓W_mul2, ↓W_eq1, ↓W_eq2, ↓W_eq3, ↓W_eq4, ↓W_ne1, ↓W_ne2, ↓W_ne3, ↓W_in1, ↓W_in2, ↓W_in3, ↓W_in4, ↓W_in5, ↓W_is1, ↓W_is2, ↓W_at, ↓W_atS, ↓W_ix1, ↓W_ix2, ↓W_ix3, ↓W_ix4, ↓W_sl, ↓W_on, ↓W_os, ↓W_part, ↓W_sl1, ↓W_sl2, ↓W_sl3, ↓W_sl4, ↓W_len1, ↓W_len2, ↓W_len3, ↓W_len4, ↓W_abs, ↓W_intf, ↓W_strf, ↓W_list1, ↓W_list2, ↓W_list3, ↓W_tup1, ↓W_tup2, ↓W_tup3, ↓W_max, ↓W_min, ↓W_allK, ↓W_all1, ↓W_isi1, ↓W_isi2, ↓W_k_ns, ↓W_k_bs, ↓W_k_is, ↓W_k_ss, ↓W_k_ts, ↓W_k_ls, ↓W_k_nb, ↓W_k_bb, ↓W_k_ib, ↓W_k_sb, ↓W_k_tb, ↓W_k_lb, ↓W_k_ni, ↓W_k_bi, ↓W_k_ii, ↓W_k_si, ↓W_k_ti, ↓W_k_li, ↓W_k_nt, ↓W_k_bt, ↓W_k_it, ↓W_k_st, ↓W_k_tt, ↓W_k_lt, ↓W_k_nl, ↓W_k_bl, ↓W_k_il, ↓W_k_sl, ↓W_k_tl, ↓W_k_ll, ↓W_valsK, ↓W_etup, ↓W_elst, ↓W_vals0, ↓W_vals1, ↓W_bool, ↓W_bool1, ↓W_tand, ↓W_tor, ↓W_tnot, ↓W_tru, ↓W_tru1, ↓W_tru2, ↓W_tru3, ↓W_tru4, ↓W_tru5, ↓W_tru6, ↓W_tru7, ↓W_bo, ↓W_eand, ↓W_eor, ↓W_enot, ↓W_ink, ↓W_eneg, ↓W_snil, ↓W_seq, ↓W_asg, ↓W_asg1, ↓W_asg2, ↓W_asg3, ↓W_ret, ↓W_hand1, ↓W_hand2, ↓W_hand3, ↓W_hand4, ↓W_expr, ↓W_if, ↓W_for, ↓W_any, ↓W_it1, ↓W_it2, ↓W_it3, ↓W_rg1, ↓W_lc, ↓W_bn, ↓W_yes, ↓W_ownK, ↓W_mut, ↓W_app, ↓W_ins, ↓W_setK, ↓W_stK, ↓W_setIx, ↓W_strK, ↓W_upper, ↓W_join1, ↓W_start, ↓W_slot1, ↓W_slot2, ↓W_arg1, ↓W_arg2, ↓W_sFrz, ↓W_strb, endsD, wipeE, List.foldr_cons, List.foldr_nil, List.length_cons, List.length_nil, List.map_cons, List.map_nil, List.cons_append, List.nil_append, List.append_nil, List.replicate, List.getElem?_cons_zero, List.getElem?_cons_succ, List.getElem?_nil, List.set_cons_zero, List.set_cons_succ, Nat.reduceAdd, Nat.reduceSub, Nat.zero_add, if_true, if_false, Bool.false_eq_true, Bool.not_true, Bool.not_false, true_and, and_true, List.forall_mem_cons, List.mem_cons, List.not_mem_nil, or_false, forall_eq_or_imp, forall_eq, false_and, and_false, implies_true, false_or, Option.map_some, Option.map_none, ite_self, Bool.and_true, Bool.true_and, Bool.and_false, Bool.false_and, List.forall_mem_nil, decide_true, decide_false, isNonD, signsD]
    have c1 : (cutS wd none (some z)).length ≤ 8 := cut8 w1
    have c2 : (cutS wd (some (z + 1)) none).length ≤ 8 := cut8 w1
    simp only [len_add, one_len]
    refine ⟨lim_of (by omega), lim_of (by omega), lim_of (by omega), h _ (by show _ ≤ _; simp only [len_add, one_len]; omega) trivial⟩
  refine iteB (fun _ => ?_) (fun _ => ?_)
  · refine number_of (by decide) (by decide) fun n n0 n1 => ?_
    simp -dsimp only [↓W_var, ↓W_var1, ↓W_var2, ↓W_var3, ↓W_c, ↓W_frz, ↓W_frz1, ↓W_frz2, ↓W_frz3, ↓W_frz4, ↓W_op, ↓W_call, ↓W_fn, ↓W_fn0, ↓W_fnK, ↓W_nil, ↓W_cons, ↓W_add1, ↓W_add2, ↓W_add3, ↓W_add4, ↓W_add5, ↓W_add6, ↓W_add7, ↓W_int, ↓W_int0, ↓W_mul1, ↓W_mul2, ↓W_eq1, ↓W_eq2, ↓W_eq3, ↓W_eq4, ↓W_ne1, ↓W_ne2, ↓W_ne3, ↓W_in1, ↓W_in2, ↓W_in3, ↓W_in4, ↓W_in5, ↓W_is1, ↓W_is2, ↓W_at, ↓W_atS, ↓W_ix1, ↓W_ix2, ↓W_ix3, ↓W_ix4, ↓W_sl, ↓W_on, ↓W_os, ↓W_part, ↓W_sl1, ↓W_sl2, ↓W_sl3, ↓W_sl4, ↓W_len1, ↓W_len2, ↓W_len3, ↓W_len4, ↓W_abs, ↓W_intf, ↓W_strf, ↓W_list1, ↓W_list2, ↓W_list3, ↓W_tup1, ↓W_tup2, ↓W_tup3, ↓W_max, ↓W_min, ↓W_allK, ↓W_all1, ↓W_isi1, ↓W_isi2, ↓W_k_ns, ↓W_k_bs, ↓W_k_is, ↓W_k_ss, ↓W_k_ts, ↓W_k_ls, ↓W_k_nb, ↓W_k_bb, ↓W_k_ib, ↓W_k_sb, ↓W_k_tb, ↓W_k_lb, ↓W_k_ni, ↓W_k_bi, ↓W_k_ii, ↓W_k_si, ↓W_k_ti, ↓W_k_li, ↓W_k_nt, ↓W_k_bt, ↓W_k_it, ↓W_k_st, ↓W_k_tt, ↓W_k_lt, ↓W_k_nl, ↓W_k_bl, ↓W_k_il, ↓W_k_sl, ↓W_k_tl, ↓W_k_ll, ↓W_valsK, ↓W_etup, ↓W_elst, ↓W_vals0, ↓W_vals1, ↓W_bool, ↓W_bool1, ↓W_tand, ↓W_tor, ↓W_tnot, ↓W_tru, ↓W_tru1, ↓W_tru2, ↓W_tru3, ↓W_tru4, ↓W_tru5, ↓W_tru6, ↓W_tru7, ↓W_bo, ↓W_eand, ↓W_eor, ↓W_enot, ↓W_ink, ↓W_eneg, ↓W_snil, ↓W_seq, ↓W_asg, ↓W_asg1, ↓W_asg2, ↓W_asg3, ↓W_ret, ↓W_hand1, ↓W_hand2, ↓W_hand3, ↓W_hand4, ↓W_expr, ↓W_if, ↓W_for, ↓W_any, ↓W_it1, ↓W_it2, ↓W_it3, ↓W_rg1, ↓W_lc, ↓W_bn, ↓W_yes, ↓W_ownK, ↓W_mut, ↓W_app, ↓W_ins, ↓W_setK, ↓W_stK, ↓W_setIx, ↓W_strK, ↓W_upper, ↓W_join1, ↓W_start, ↓W_slot1, ↓W_slot2, ↓W_arg1, ↓W_arg2, ↓W_sFrz, ↓W_strb, endsD, wipeE, List.foldr_cons, List.foldr_nil, List.length_cons, List.length_nil, List.map_cons, List.map_nil, List.cons_append, List.nil_append, List.append_nil, List.replicate, List.getElem?_cons_zero, List.getElem?_cons_succ, List.getElem?_nil, List.set_cons_zero, List.set_cons_succ, Nat.reduceAdd, Nat.reduceSub, Nat.zero_add, if_true, if_false, Bool.false_eq_true, Bool.not_true, Bool.not_false, true_and, and_true, List.forall_mem_cons, List.mem_cons, List.not_mem_nil, or_false, forall_eq_or_imp, forall_eq, false_and, and_false, implies_true, false_or, Option.map_some, Option.map_none, ite_self, Bool.and_true, Bool.true_and, Bool.and_false, Bool.false_and, List.forall_mem_nil, decide_true, decide_false, isNonD, signsD]
    refine ⟨n, rfl, by omega, by omega, fun s hs => ?_⟩
    simp -dsimp only [↓W_var, ↓W_var1, ↓W_var2, ↓W_var3, ↓W_c, ↓W_frz, ↓W_frz1, ↓W_frz2, ↓W_frz3, ↓W_frz4, ↓W_op, ↓W_call, ↓W_fn, ↓W_fn0, ↓W_fnK, ↓W_nil, ↓W_cons, ↓W_add1, ↓W_add2, ↓W_add3, ↓W_add4, ↓W_add5, ↓W_add6, ↓W_add7, ↓W_int, ↓W_int0, ↓W_mul1, ↓W_mul2, ↓W_eq1, ↓W_eq2, ↓W_eq3, ↓W_eq4, ↓W_ne1, ↓W_ne2, ↓W_ne3, ↓W_in1, ↓W_in2, ↓W_in3, ↓W_in4, ↓W_in5, ↓W_is1, ↓W_is2, ↓W_at, ↓W_atS, ↓W_ix1, ↓W_ix2, ↓W_ix3, ↓W_ix4, ↓W_sl, ↓W_on, ↓W_os, ↓W_part, ↓W_sl1, ↓W_sl2, ↓W_sl3, ↓W_sl4, ↓W_len1, ↓W_len2, ↓W_len3, ↓W_len4, ↓W_abs, ↓W_intf, ↓W_strf, ↓W_list1, ↓W_list2, ↓W_list3, ↓W_tup1, ↓W_tup2, ↓W_tup3, ↓W_max, ↓W_min, ↓W_allK, ↓W_all1, ↓W_isi1, ↓W_isi2, ↓W_k_ns, ↓W_k_bs, ↓W_k_is, ↓W_k_ss, ↓W_k_ts, ↓W_k_ls, ↓W_k_nb, ↓W_k_bb, ↓W_k_ib, ↓W_k_sb, ↓W_k_tb, ↓W_k_lb, ↓W_k_ni, ↓W_k_bi, ↓W_k_ii, ↓W_k_si, ↓W_k_ti, ↓W_k_li, ↓W_k_nt, ↓W_k_bt, ↓W_k_it, ↓W_k_st, ↓W_k_tt, ↓W_k_lt, ↓W_k_nl, ↓W_k_bl, ↓W_k_il, ↓W_k_sl, ↓W_k_tl, ↓W_k_ll, ↓W_valsK, ↓W_etup, ↓W_elst, ↓W_vals0, ↓W_vals1, ↓W_bool, ↓W_bool1, ↓W_tand, ↓W_tor, ↓W_tnot, ↓W_tru, ↓W_tru1, ↓W_tru2, ↓W_tru3, ↓W_tru4, ↓W_tru5, ↓W_tru6, ↓W_tru7, ↓W_bo, ↓W_eand, ↓W_eor, ↓W_enot, ↓W_ink, ↓W_eneg, ↓W_snil, ↓W_seq, ↓W_asg, ↓W_asg1, ↓W_asg2, ↓W_asg3, ↓W_ret, ↓W_hand1, ↓W_hand2, ↓W_hand3, ↓W_hand4, ↓W_expr, ↓W_if, ↓W_for, ↓W_any, ↓W_it1, ↓W_it2, ↓W_it3, ↓W_rg1, ↓W_lc, ↓W_bn, ↓W_yes, ↓W_ownK, ↓W_mut, ↓W_app, ↓W_ins, ↓W_setK, ↓W_stK, ↓W_setIx, ↓W_strK, ↓W_upper, ↓W_join1, ↓W_start, ↓W_slot1, ↓W_slot2, ↓W_arg1, ↓W_arg2, ↓W_sFrz, ↓W_strb, endsD, wipeE, List.foldr_cons, List.foldr_nil, List.length_cons, List.length_nil, List.map_cons, List.map_nil, List.cons_append, List.nil_append, List.append_nil, List.replicate, List.getElem?_cons_zero, List.getElem?_cons_succ, List.getElem?_nil, List.set_cons_zero, List.set_cons_succ, Nat.reduceAdd, Nat.reduceSub, Nat.zero_add, if_true, if_false, Bool.false_eq_true, Bool.not_true, Bool.not_false, true_and, and_true, List.forall_mem_cons, List.mem_cons, List.not_mem_nil, or_false, forall_eq_or_imp, forall_eq, false_and, and_false, implies_true, false_or, Option.map_some, Option.map_none, ite_self, Bool.and_true, Bool.true_and, Bool.and_false, Bool.false_and, List.forall_mem_nil, decide_true, decide_false, isNonD, signsD]
    exact h _ (by show _ ≤ _; omega) trivial
  refine iteB (fun _ => ?_) (fun _ => ?_)
  · have e : (repS wd (Int.toNat 10)).length ≤ 80 := by rw [repS_length]; show 10 * wd.length ≤ 80; omega
    refine ⟨⟨by decide, by decide, by show wd.length * 10 ≤ _; omega⟩, ?_⟩
    refine number_of (by decide) (by decide) fun n n0 n1 => ?_
    simp -dsimp only [↓W_var, ↓W_var1, ↓W_var2, ↓W_var3, ↓W_c, ↓W_frz, ↓W_frz1, ↓W_frz2, ↓W_frz3, ↓W_frz4, ↓W_op, ↓W_call, ↓W_fn, ↓W_fn0, ↓W_fnK, ↓W_nil, ↓W_cons, ↓W_add1, ↓W_add2, ↓W_add3, ↓W_add4, ↓W_add5, ↓W_add6, ↓W_add7, ↓W_int, ↓W_int0, ↓W_mul1, ↓W_mul2, ↓W_eq1, ↓W_eq2, ↓W_eq3, ↓W_eq4, ↓W_ne1, ↓W_ne2, ↓W_ne3, ↓W_in1, ↓W_in2, ↓W_in3, ↓W_in4, ↓W_in5, ↓W_is1, ↓W_is2, ↓W_at, ↓W_atS, ↓W_ix1, ↓W_ix2, ↓W_ix3, ↓W_ix4, ↓W_sl, ↓W_on, ↓W_os, ↓W_part, ↓W_sl1, ↓W_sl2, ↓W_sl3, ↓W_sl4, ↓W_len1, ↓W_len2, ↓W_len3, ↓W_len4, ↓W_abs, ↓W_intf, ↓W_strf, ↓W_list1, ↓W_list2, ↓W_list3, ↓W_tup1, ↓W_tup2, ↓W_tup3, ↓W_max, ↓W_min, ↓W_allK, ↓W_all1, ↓W_isi1, ↓W_isi2, ↓W_k_ns, ↓W_k_bs, ↓W_k_is, ↓W_k_ss, ↓W_k_ts, ↓W_k_ls, ↓W_k_nb, ↓W_k_bb, ↓W_k_ib, ↓W_k_sb, ↓W_k_tb, ↓W_k_lb, ↓W_k_ni, ↓W_k_bi, ↓W_k_ii, ↓W_k_si, ↓W_k_ti, ↓W_k_li, ↓W_k_nt, ↓W_k_bt, ↓W_k_it, ↓W_k_st, ↓W_k_tt, ↓W_k_lt, ↓W_k_nl, ↓W_k_bl, ↓W_k_il, ↓W_k_sl, ↓W_k_tl, ↓W_k_ll, ↓W_valsK, ↓W_etup, ↓W_elst, ↓W_vals0, ↓W_vals1, ↓W_bool, ↓W_bool1, ↓W_tand, ↓W_tor, ↓W_tnot, ↓W_tru, ↓W_tru1, ↓W_tru2, ↓W_tru3, ↓W_tru4, ↓W_tru5, ↓W_tru6, ↓W_tru7, ↓W_bo, ↓W_eand, ↓W_eor, ↓W_enot, ↓W_ink, ↓W_eneg, ↓W_snil, ↓W_seq, ↓W_asg, ↓W_asg1, ↓W_asg2, ↓W_asg3, ↓W_ret, ↓W_hand1, ↓W_hand2, ↓W_hand3, ↓W_hand4, ↓W_expr, ↓W_if, ↓W_for, ↓W_any, ↓W_it1, ↓W_it2, ↓W_it3, ↓W_rg1, ↓W_lc, ↓W_bn, ↓W_yes, ↓W_ownK, ↓W_mut, ↓W_app, ↓W_ins, ↓W_setK, ↓W_stK, ↓W_setIx, ↓W_strK, ↓W_upper, ↓W_join1, ↓W_start, ↓W_slot1, ↓W_slot2, ↓W_arg1, ↓W_arg2, ↓W_sFrz, ↓W_strb, endsD, wipeE, List.foldr_cons, List.foldr_nil, List.length_cons, List.length_nil, List.map_cons, List.map_nil, List.cons_append, List.nil_append, List.append_nil, List.replicate, List.getElem?_cons_zero, List.getElem?_cons_succ, List.getElem?_nil, List.set_cons_zero, List.set_cons_succ, Nat.reduceAdd, Nat.reduceSub, Nat.zero_add, if_true, if_false, Bool.false_eq_true, Bool.not_true, Bool.not_false, true_and, and_true, List.forall_mem_cons, List.mem_cons, List.not_mem_nil, or_false, forall_eq_or_imp, forall_eq, false_and, and_false, implies_true, false_or, Option.map_some, Option.map_none, ite_self, Bool.and_true, Bool.true_and, Bool.and_false, Bool.false_and, List.forall_mem_nil, decide_true, decide_false, isNonD, signsD]
    exact ⟨lim_of (by omega), h _ (by show _ ≤ _; exact cut8 (by omega)) trivial⟩
  refine iteB (fun _ => ?_) (fun _ => ?_)
  · refine take_of (by decide) fun n n0 _ n1 => ?_
    have n2 := n1 (by decide)
    simp -dsimp only [↓W_var, ↓W_var1, ↓W_var2, ↓W_var3, ↓W_c, ↓W_frz, ↓W_frz1, ↓W_frz2, ↓W_frz3, ↓W_frz4, ↓W_op, ↓W_call, ↓W_fn, ↓W_fn0, ↓W_fnK, ↓W_nil, ↓W_cons, ↓W_add1, ↓W_add2, ↓W_add3, ↓W_add4, ↓W_add5, ↓W_add6, ↓W_add7, ↓W_int, ↓W_int0, ↓W_mul1, ↓W_mul2, ↓W_eq1, ↓W_eq2, ↓W_eq3, ↓W_eq4, ↓W_ne1, ↓W_ne2, ↓W_ne3, ↓W_in1, ↓W_in2, ↓W_in3, ↓W_in4, ↓W_in5, ↓W_is1, ↓W_is2, ↓W_at, ↓W_atS, ↓W_ix1, ↓W_ix2, ↓W_ix3, ↓W_ix4, ↓W_sl, ↓W_on, ↓W_os, ↓W_part, ↓W_sl1, ↓W_sl2, ↓W_sl3, ↓W_sl4, ↓W_len1, ↓W_len2, ↓W_len3, ↓W_len4, ↓W_abs, ↓W_intf, ↓W_strf, ↓W_list1, ↓W_list2, ↓W_list3, ↓W_tup1, ↓W_tup2, ↓W_tup3, ↓W_max, ↓W_min, ↓W_allK, ↓W_all1, ↓W_isi1, ↓W_isi2, ↓W_k_ns, ↓W_k_bs, ↓W_k_is, ↓W_k_ss, ↓W_k_ts, ↓W_k_ls, ↓W_k_nb, ↓W_k_bb, ↓W_k_ib, ↓W_k_sb, ↓W_k_tb, ↓W_k_lb, ↓W_k_ni, ↓W_k_bi, ↓W_k_ii, ↓W_k_si, ↓W_k_ti, ↓W_k_li, ↓W_k_nt, ↓W_k_bt, ↓W_k_it, ↓W_k_st, ↓W_k_tt, ↓W_k_lt, ↓W_k_nl, ↓W_k_bl, ↓W_k_il, ↓W_k_sl, ↓W_k_tl, ↓W_k_ll, ↓W_valsK, ↓W_etup, ↓W_elst, ↓W_vals0, ↓W_vals1, ↓W_bool, ↓W_bool1, ↓W_tand, ↓W_tor, ↓W_tnot, ↓W_tru, ↓W_tru1, ↓W_tru2, ↓W_tru3, ↓W_tru4, ↓W_tru5, ↓W_tru6, ↓W_tru7, ↓W_bo, ↓W_eand, ↓W_eor, ↓W_enot, ↓W_ink, ↓W_eneg, ↓W_snil, ↓W_seq, ↓W_asg, ↓W_asg1, ↓W_asg2, ↓W_asg3, ↓W_ret, ↓W_hand1, ↓W_hand2, ↓W_hand3, ↓W_hand4, ↓W_expr, ↓W_if, ↓W_for, ↓W_any, ↓W_it1, ↓W_it2, ↓W_it3, ↓W_rg1, ↓W_lc, ↓W_bn, ↓W_yes, ↓W_ownK, ↓W_mut, ↓W_app, ↓W_ins, ↓W_setK, ↓W_stK, ↓W_setIx, ↓W_strK, ↓W_upper, ↓W_join1, ↓W_start, ↓W_slot1, ↓W_slot2, ↓W_arg1, ↓W_arg2, ↓W_sFrz, ↓W_strb, endsD, wipeE, List.foldr_cons, List.foldr_nil, List.length_cons, List.length_nil, List.map_cons, List.map_nil, List.cons_append, List.nil_append, List.append_nil, List.replicate, List.getElem?_cons_zero, List.getElem?_cons_succ, List.getElem?_nil, List.set_cons_zero, List.set_cons_succ, Nat.reduceAdd, Nat.reduceSub, Nat.zero_add, if_true, if_false, Bool.false_eq_true, Bool.not_true, Bool.not_false, true_and, and_true, List.forall_mem_cons, List.mem_cons, List.not_mem_nil, or_false, forall_eq_or_imp, forall_eq, false_and, and_false, implies_true, false_or, Option.map_some, Option.map_none, ite_self, Bool.and_true, Bool.true_and, Bool.and_false, Bool.false_and, List.forall_mem_nil, decide_true, decide_false, isNonD, signsD]
    refine ⟨by omega, by omega, nn_of (by rw [range_len]; omega), ?_⟩
    refine lcW_draw (fun _ e => isNameD e = true) _ _ (fun d _ Y N hY => ?_) (fun es hl he => ?_)
    · simp -dsimp only [↓W_var, ↓W_var1, ↓W_var2, ↓W_var3, ↓W_c, ↓W_frz, ↓W_frz1, ↓W_frz2, ↓W_frz3, ↓W_frz4, ↓W_op, ↓W_call, ↓W_fn, ↓W_fn0, ↓W_fnK, ↓W_nil, ↓W_cons, ↓W_add1, ↓W_add2, ↓W_add3, ↓W_add4, ↓W_add5, ↓W_add6, ↓W_add7, ↓W_int, ↓W_int0, ↓W_mul1, ↓W_mul2, ↓W_eq1, ↓W_eq2, ↓W_eq3, ↓W_eq4, ↓W_ne1, ↓W_ne2, ↓W_ne3, ↓W_in1, ↓W_in2, ↓W_in3, ↓W_in4, ↓W_in5, ↓W_is1, ↓W_is2, ↓W_at, ↓W_atS, ↓W_ix1, ↓W_ix2, ↓W_ix3, ↓W_ix4, ↓W_sl, ↓W_on, ↓W_os, ↓W_part, ↓W_sl1, ↓W_sl2, ↓W_sl3, ↓W_sl4, ↓W_len1, ↓W_len2, ↓W_len3, ↓W_len4, ↓W_abs, ↓W_intf, ↓W_strf, ↓W_list1, ↓W_list2, ↓W_list3, ↓W_tup1, ↓W_tup2, ↓W_tup3, ↓W_max, ↓W_min, ↓W_allK, ↓W_all1, ↓W_isi1, ↓W_isi2, ↓W_k_ns, ↓W_k_bs, ↓W_k_is, ↓W_k_ss, ↓W_k_ts, ↓W_k_ls, ↓W_k_nb, ↓W_k_bb, ↓W_k_ib, ↓W_k_sb, ↓W_k_tb, ↓W_k_lb, ↓W_k_ni, ↓W_k_bi, ↓W_k_ii, ↓W_k_si, ↓W_k_ti, ↓W_k_li, ↓W_k_nt, ↓W_k_bt, ↓W_k_it, ↓W_k_st, ↓W_k_tt, ↓W_k_lt, ↓W_k_nl, ↓W_k_bl, ↓W_k_il, ↓W_k_sl, ↓W_k_tl, ↓W_k_ll, ↓W_valsK, ↓W_etup, ↓W_elst, ↓W_vals0, ↓W_vals1, ↓W_bool, ↓W_bool1, ↓W_tand, ↓W_tor, ↓W_tnot, ↓W_tru, ↓W_tru1, ↓W_tru2, ↓W_tru3, ↓W_tru4, ↓W_tru5, ↓W_tru6, ↓W_tru7, ↓W_bo, ↓W_eand, ↓W_eor, ↓W_enot, ↓W_ink, ↓W_eneg, ↓W_snil, ↓W_seq, ↓W_asg, ↓W_asg1, ↓W_asg2, ↓W_asg3, ↓W_ret, ↓W_hand1, ↓W_hand2, ↓W_hand3, ↓W_hand4, ↓W_expr, ↓W_if, ↓W_for, ↓W_any, ↓W_it1, ↓W_it2, ↓W_it3, ↓W_rg1, ↓W_lc, ↓W_bn, ↓W_yes, ↓W_ownK, ↓W_mut, ↓W_app, ↓W_ins, ↓W_setK, ↓W_stK, ↓W_setIx, ↓W_strK, ↓W_upper, ↓W_join1, ↓W_start, ↓W_slot1, ↓W_slot2, ↓W_arg1, ↓W_arg2, ↓W_sFrz, ↓W_strb, endsD, wipeE, List.foldr_cons, List.foldr_nil, List.length_cons, List.length_nil, List.map_cons, List.map_nil, List.cons_append, List.nil_append, List.append_nil, List.replicate, List.getElem?_cons_zero, List.getElem?_cons_succ, List.getElem?_nil, List.set_cons_zero, List.set_cons_succ, Nat.reduceAdd, Nat.reduceSub, Nat.zero_add, if_true, if_false, Bool.false_eq_true, Bool.not_true, Bool.not_false, true_and, and_true, List.forall_mem_cons, List.mem_cons, List.not_mem_nil, or_false, forall_eq_or_imp, forall_eq, false_and, and_false, implies_true, false_or, Option.map_some, Option.map_none, ite_self, Bool.and_true, Bool.true_and, Bool.and_false, Bool.false_and, List.forall_mem_nil, decide_true, decide_false, isNonD, signsD]
      refine ⟨rfl, fun s hs => ?_⟩
      simp -dsimp only [↓W_var, ↓W_var1, ↓W_var2, ↓W_var3, ↓W_c, ↓W_frz, ↓W_frz1, ↓W_frz2, ↓W_frz3, ↓W_frz4, ↓W_op, ↓W_call, ↓W_fn, ↓W_fn0, ↓W_fnK, ↓W_nil, ↓W_cons, ↓W_add1, ↓W_add2, ↓W_add3, ↓W_add4, ↓W_add5, ↓W_add6, ↓W_add7, ↓W_int, ↓W_int0, ↓W_mul1, ↓W_mul2, ↓W_eq1, ↓W_eq2, ↓W_eq3, ↓W_eq4, ↓W_ne1, ↓W_ne2, ↓W_ne3, ↓W_in1, ↓W_in2, ↓W_in3, ↓W_in4, ↓W_in5, ↓W_is1, ↓W_is2, ↓W_at, ↓W_atS, ↓W_ix1, ↓W_ix2, ↓W_ix3, ↓W_ix4, ↓W_sl, ↓W_on, ↓W_os, ↓W_part, ↓W_sl1, ↓W_sl2, ↓W_sl3, ↓W_sl4, ↓W_len1, ↓W_len2, ↓W_len3, ↓W_len4, ↓W_abs, ↓W_intf, ↓W_strf, ↓W_list1, ↓W_list2, ↓W_list3, ↓W_tup1, ↓W_tup2, ↓W_tup3, ↓W_max, ↓W_min, ↓W_allK, ↓W_all1, ↓W_isi1, ↓W_isi2, ↓W_k_ns, ↓W_k_bs, ↓W_k_is, ↓W_k_ss, ↓W_k_ts, ↓W_k_ls, ↓W_k_nb, ↓W_k_bb, ↓W_k_ib, ↓W_k_sb, ↓W_k_tb, ↓W_k_lb, ↓W_k_ni, ↓W_k_bi, ↓W_k_ii, ↓W_k_si, ↓W_k_ti, ↓W_k_li, ↓W_k_nt, ↓W_k_bt, ↓W_k_it, ↓W_k_st, ↓W_k_tt, ↓W_k_lt, ↓W_k_nl, ↓W_k_bl, ↓W_k_il, ↓W_k_sl, ↓W_k_tl, ↓W_k_ll, ↓W_valsK, ↓W_etup, ↓W_elst, ↓W_vals0, ↓W_vals1, ↓W_bool, ↓W_bool1, ↓W_tand, ↓W_tor, ↓W_tnot, ↓W_tru, ↓W_tru1, ↓W_tru2, ↓W_tru3, ↓W_tru4, ↓W_tru5, ↓W_tru6, ↓W_tru7, ↓W_bo, ↓W_eand, ↓W_eor, ↓W_enot, ↓W_ink, ↓W_eneg, ↓W_snil, ↓W_seq, ↓W_asg, ↓W_asg1, ↓W_asg2, ↓W_asg3, ↓W_ret, ↓W_hand1, ↓W_hand2, ↓W_hand3, ↓W_hand4, ↓W_expr, ↓W_if, ↓W_for, ↓W_any, ↓W_it1, ↓W_it2, ↓W_it3, ↓W_rg1, ↓W_lc, ↓W_bn, ↓W_yes, ↓W_ownK, ↓W_mut, ↓W_app, ↓W_ins, ↓W_setK, ↓W_stK, ↓W_setIx, ↓W_strK, ↓W_upper, ↓W_join1, ↓W_start, ↓W_slot1, ↓W_slot2, ↓W_arg1, ↓W_arg2, ↓W_sFrz, ↓W_strb, endsD, wipeE, List.foldr_cons, List.foldr_nil, List.length_cons, List.length_nil, List.map_cons, List.map_nil, List.cons_append, List.nil_append, List.append_nil, List.replicate, List.getElem?_cons_zero, List.getElem?_cons_succ, List.getElem?_nil, List.set_cons_zero, List.set_cons_succ, Nat.reduceAdd, Nat.reduceSub, Nat.zero_add, if_true, if_false, Bool.false_eq_true, Bool.not_true, Bool.not_false, true_and, and_true, List.forall_mem_cons, List.mem_cons, List.not_mem_nil, or_false, forall_eq_or_imp, forall_eq, false_and, and_false, implies_true, false_or, Option.map_some, Option.map_none, ite_self, Bool.and_true, Bool.true_and, Bool.and_false, Bool.false_and, List.forall_mem_nil, decide_true, decide_false, isNonD, signsD]
      exact ⟨_, rfl, hY _ hs⟩
    have hm : ∀ e ∈ es, isNameD e = true := fun e me => by
      obtain ⟨i, hi⟩ := List.mem_iff_getElem?.mp me
      have hi2 : i < es.length := (List.getElem?_eq_some_iff.mp hi).1
      exact he i _ e (List.getElem?_eq_getElem (by omega)) hi
    rw [range_len] at hl
    have dp : es.length ≤ 1000 ∧ ∀ e ∈ es, DeepD 1 e := ⟨by omega, fun e m => nameD_deep (hm e m)⟩
    rw [List.nil_append]
    simp -dsimp only [↓W_var, ↓W_var1, ↓W_var2, ↓W_var3, ↓W_c, ↓W_frz, ↓W_frz1, ↓W_frz2, ↓W_frz3, ↓W_frz4, ↓W_op, ↓W_call, ↓W_fn, ↓W_fn0, ↓W_fnK, ↓W_nil, ↓W_cons, ↓W_add1, ↓W_add2, ↓W_add3, ↓W_add4, ↓W_add5, ↓W_add6, ↓W_add7, ↓W_int, ↓W_int0, ↓W_mul1, ↓W_mul2, ↓W_eq1, ↓W_eq2, ↓W_eq3, ↓W_eq4, ↓W_ne1, ↓W_ne2, ↓W_ne3, ↓W_in1, ↓W_in2, ↓W_in3, ↓W_in4, ↓W_in5, ↓W_is1, ↓W_is2, ↓W_at, ↓W_atS, ↓W_ix1, ↓W_ix2, ↓W_ix3, ↓W_ix4, ↓W_sl, ↓W_on, ↓W_os, ↓W_part, ↓W_sl1, ↓W_sl2, ↓W_sl3, ↓W_sl4, ↓W_len1, ↓W_len2, ↓W_len3, ↓W_len4, ↓W_abs, ↓W_intf, ↓W_strf, ↓W_list1, ↓W_list2, ↓W_list3, ↓W_tup1, ↓W_tup2, ↓W_tup3, ↓W_max, ↓W_min, ↓W_allK, ↓W_all1, ↓W_isi1, ↓W_isi2, ↓W_k_ns, ↓W_k_bs, ↓W_k_is, ↓W_k_ss, ↓W_k_ts, ↓W_k_ls, ↓W_k_nb, ↓W_k_bb, ↓W_k_ib, ↓W_k_sb, ↓W_k_tb, ↓W_k_lb, ↓W_k_ni, ↓W_k_bi, ↓W_k_ii, ↓W_k_si, ↓W_k_ti, ↓W_k_li, ↓W_k_nt, ↓W_k_bt, ↓W_k_it, ↓W_k_st, ↓W_k_tt, ↓W_k_lt, ↓W_k_nl, ↓W_k_bl, ↓W_k_il, ↓W_k_sl, ↓W_k_tl, ↓W_k_ll, ↓W_valsK, ↓W_etup, ↓W_elst, ↓W_vals0, ↓W_vals1, ↓W_bool, ↓W_bool1, ↓W_tand, ↓W_tor, ↓W_tnot, ↓W_tru, ↓W_tru1, ↓W_tru2, ↓W_tru3, ↓W_tru4, ↓W_tru5, ↓W_tru6, ↓W_tru7, ↓W_bo, ↓W_eand, ↓W_eor, ↓W_enot, ↓W_ink, ↓W_eneg, ↓W_snil, ↓W_seq, ↓W_asg, ↓W_asg1, ↓W_asg2, ↓W_asg3, ↓W_ret, ↓W_hand1, ↓W_hand2, ↓W_hand3, ↓W_hand4, ↓W_expr, ↓W_if, ↓W_for, ↓W_any, ↓W_it1, ↓W_it2, ↓W_it3, ↓W_rg1, ↓W_lc, ↓W_bn, ↓W_yes, ↓W_ownK, ↓W_mut, ↓W_app, ↓W_ins, ↓W_setK, ↓W_stK, ↓W_setIx, ↓W_strK, ↓W_upper, ↓W_join1, ↓W_start, ↓W_slot1, ↓W_slot2, ↓W_arg1, ↓W_arg2, ↓W_sFrz, ↓W_strb, endsD, wipeE, List.foldr_cons, List.foldr_nil, List.length_cons, List.length_nil, List.map_cons, List.map_nil, List.cons_append, List.nil_append, List.append_nil, List.replicate, List.getElem?_cons_zero, List.getElem?_cons_succ, List.getElem?_nil, List.set_cons_zero, List.set_cons_succ, Nat.reduceAdd, Nat.reduceSub, Nat.zero_add, if_true, if_false, Bool.false_eq_true, Bool.not_true, Bool.not_false, true_and, and_true, List.forall_mem_cons, List.mem_cons, List.not_mem_nil, or_false, forall_eq_or_imp, forall_eq, false_and, and_false, implies_true, false_or, Option.map_some, Option.map_none, ite_self, Bool.and_true, Bool.true_and, Bool.and_false, Bool.false_and, List.forall_mem_nil, decide_true, decide_false, isNonD, signsD]
    refine ⟨es, rfl, ?_, ?_⟩
    · simp -dsimp only [↓W_var, ↓W_var1, ↓W_var2, ↓W_var3, ↓W_c, ↓W_frz, ↓W_frz1, ↓W_frz2, ↓W_frz3, ↓W_frz4, ↓W_op, ↓W_call, ↓W_fn, ↓W_fn0, ↓W_fnK, ↓W_nil, ↓W_cons, ↓W_add1, ↓W_add2, ↓W_add3, ↓W_add4, ↓W_add5, ↓W_add6, ↓W_add7, ↓W_int, ↓W_int0, ↓W_mul1, ↓W_mul2, ↓W_eq1, ↓W_eq2, ↓W_eq3, ↓W_eq4, ↓W_ne1, ↓W_ne2, ↓W_ne3, ↓W_in1, ↓W_in2, ↓W_in3, ↓W_in4, ↓W_in5, ↓W_is1, ↓W_is2, ↓W_at, ↓W_atS, ↓W_ix1, ↓W_ix2, ↓W_ix3, ↓W_ix4, ↓W_sl, ↓W_on, ↓W_os, ↓W_part, ↓W_sl1, ↓W_sl2, ↓W_sl3, ↓W_sl4, ↓W_len1, ↓W_len2, ↓W_len3, ↓W_len4, ↓W_abs, ↓W_intf, ↓W_strf, ↓W_list1, ↓W_list2, ↓W_list3, ↓W_tup1, ↓W_tup2, ↓W_tup3, ↓W_max, ↓W_min, ↓W_allK, ↓W_all1, ↓W_isi1, ↓W_isi2, ↓W_k_ns, ↓W_k_bs, ↓W_k_is, ↓W_k_ss, ↓W_k_ts, ↓W_k_ls, ↓W_k_nb, ↓W_k_bb, ↓W_k_ib, ↓W_k_sb, ↓W_k_tb, ↓W_k_lb, ↓W_k_ni, ↓W_k_bi, ↓W_k_ii, ↓W_k_si, ↓W_k_ti, ↓W_k_li, ↓W_k_nt, ↓W_k_bt, ↓W_k_it, ↓W_k_st, ↓W_k_tt, ↓W_k_lt, ↓W_k_nl, ↓W_k_bl, ↓W_k_il, ↓W_k_sl, ↓W_k_tl, ↓W_k_ll, ↓W_valsK, ↓W_etup, ↓W_elst, ↓W_vals0, ↓W_vals1, ↓W_bool, ↓W_bool1, ↓W_tand, ↓W_tor, ↓W_tnot, ↓W_tru, ↓W_tru1, ↓W_tru2, ↓W_tru3, ↓W_tru4, ↓W_tru5, ↓W_tru6, ↓W_tru7, ↓W_bo, ↓W_eand, ↓W_eor, ↓W_enot, ↓W_ink, ↓W_eneg, ↓W_snil, ↓W_seq, ↓W_asg, ↓W_asg1, ↓W_asg2, ↓W_asg3, ↓W_ret, ↓W_hand1, ↓W_hand2, ↓W_hand3, ↓W_hand4, ↓W_expr, ↓W_if, ↓W_for, ↓W_any, ↓W_it1, ↓W_it2, ↓W_it3, ↓W_rg1, ↓W_lc, ↓W_bn, ↓W_yes, ↓W_ownK, ↓W_mut, ↓W_app, ↓W_ins, ↓W_setK, ↓W_stK, ↓W_setIx, ↓W_strK, ↓W_upper, ↓W_join1, ↓W_start, ↓W_slot1, ↓W_slot2, ↓W_arg1, ↓W_arg2, ↓W_sFrz, ↓W_strb, endsD, wipeE, List.foldr_cons, List.foldr_nil, List.length_cons, List.length_nil, List.map_cons, List.map_nil, List.cons_append, List.nil_append, List.append_nil, List.replicate, List.getElem?_cons_zero, List.getElem?_cons_succ, List.getElem?_nil, List.set_cons_zero, List.set_cons_succ, Nat.reduceAdd, Nat.reduceSub, Nat.zero_add, if_true, if_false, Bool.false_eq_true, Bool.not_true, Bool.not_false, true_and, and_true, List.forall_mem_cons, List.mem_cons, List.not_mem_nil, or_false, forall_eq_or_imp, forall_eq, false_and, and_false, implies_true, false_or, Option.map_some, Option.map_none, ite_self, Bool.and_true, Bool.true_and, Bool.and_false, Bool.false_and, List.forall_mem_nil, decide_true, decide_false, isNonD, signsD]
      exact h' _ dp hm
    · simp -dsimp only [↓W_var, ↓W_var1, ↓W_var2, ↓W_var3, ↓W_c, ↓W_frz, ↓W_frz1, ↓W_frz2, ↓W_frz3, ↓W_frz4, ↓W_op, ↓W_call, ↓W_fn, ↓W_fn0, ↓W_fnK, ↓W_nil, ↓W_cons, ↓W_add1, ↓W_add2, ↓W_add3, ↓W_add4, ↓W_add5, ↓W_add6, ↓W_add7, ↓W_int, ↓W_int0, ↓W_mul1, ↓W_mul2, ↓W_eq1, ↓W_eq2, ↓W_eq3, ↓W_eq4, ↓W_ne1, ↓W_ne2, ↓W_ne3, ↓W_in1, ↓W_in2, ↓W_in3, ↓W_in4, ↓W_in5, ↓W_is1, ↓W_is2, ↓W_at, ↓W_atS, ↓W_ix1, ↓W_ix2, ↓W_ix3, ↓W_ix4, ↓W_sl, ↓W_on, ↓W_os, ↓W_part, ↓W_sl1, ↓W_sl2, ↓W_sl3, ↓W_sl4, ↓W_len1, ↓W_len2, ↓W_len3, ↓W_len4, ↓W_abs, ↓W_intf, ↓W_strf, ↓W_list1, ↓W_list2, ↓W_list3, ↓W_tup1, ↓W_tup2, ↓W_tup3, ↓W_max, ↓W_min, ↓W_allK, ↓W_all1, ↓W_isi1, ↓W_isi2, ↓W_k_ns, ↓W_k_bs, ↓W_k_is, ↓W_k_ss, ↓W_k_ts, ↓W_k_ls, ↓W_k_nb, ↓W_k_bb, ↓W_k_ib, ↓W_k_sb, ↓W_k_tb, ↓W_k_lb, ↓W_k_ni, ↓W_k_bi, ↓W_k_ii, ↓W_k_si, ↓W_k_ti, ↓W_k_li, ↓W_k_nt, ↓W_k_bt, ↓W_k_it, ↓W_k_st, ↓W_k_tt, ↓W_k_lt, ↓W_k_nl, ↓W_k_bl, ↓W_k_il, ↓W_k_sl, ↓W_k_tl, ↓W_k_ll, ↓W_valsK, ↓W_etup, ↓W_elst, ↓W_vals0, ↓W_vals1, ↓W_bool, ↓W_bool1, ↓W_tand, ↓W_tor, ↓W_tnot, ↓W_tru, ↓W_tru1, ↓W_tru2, ↓W_tru3, ↓W_tru4, ↓W_tru5, ↓W_tru6, ↓W_tru7, ↓W_bo, ↓W_eand, ↓W_eor, ↓W_enot, ↓W_ink, ↓W_eneg, ↓W_snil, ↓W_seq, ↓W_asg, ↓W_asg1, ↓W_asg2, ↓W_asg3, ↓W_ret, ↓W_hand1, ↓W_hand2, ↓W_hand3, ↓W_hand4, ↓W_expr, ↓W_if, ↓W_for, ↓W_any, ↓W_it1, ↓W_it2, ↓W_it3, ↓W_rg1, ↓W_lc, ↓W_bn, ↓W_yes, ↓W_ownK, ↓W_mut, ↓W_app, ↓W_ins, ↓W_setK, ↓W_stK, ↓W_setIx, ↓W_strK, ↓W_upper, ↓W_join1, ↓W_start, ↓W_slot1, ↓W_slot2, ↓W_arg1, ↓W_arg2, ↓W_sFrz, ↓W_strb, endsD, wipeE, List.foldr_cons, List.foldr_nil, List.length_cons, List.length_nil, List.map_cons, List.map_nil, List.cons_append, List.nil_append, List.append_nil, List.replicate, List.getElem?_cons_zero, List.getElem?_cons_succ, List.getElem?_nil, List.set_cons_zero, List.set_cons_succ, Nat.reduceAdd, Nat.reduceSub, Nat.zero_add, if_true, if_false, Bool.false_eq_true, Bool.not_true, Bool.not_false, true_and, and_true, List.forall_mem_cons, List.mem_cons, List.not_mem_nil, or_false, forall_eq_or_imp, forall_eq, false_and, and_false, implies_true, false_or, Option.map_some, Option.map_none, ite_self, Bool.and_true, Bool.true_and, Bool.and_false, Bool.false_and, List.forall_mem_nil, decide_true, decide_false, isNonD, signsD]
      exact h _ dp hm
  refine iteB (fun _ => ?_) (fun _ => ?_)
  · refine ⟨⟨by decide, by decide, by decide⟩, take_of (by decide) fun n n0 _ n1 => ?_⟩
    simp -dsimp only [↓W_var, ↓W_var1, ↓W_var2, ↓W_var3, ↓W_c, ↓W_frz, ↓W_frz1, ↓W_frz2, ↓W_frz3, ↓W_frz4, ↓W_op, ↓W_call, ↓W_fn, ↓W_fn0, ↓W_fnK, ↓W_nil, ↓W_cons, ↓W_add1, ↓W_add2, ↓W_add3, ↓W_add4, ↓W_add5, ↓W_add6, ↓W_add7, ↓W_int, ↓W_int0, ↓W_mul1, ↓W_mul2, ↓W_eq1, ↓W_eq2, ↓W_eq3, ↓W_eq4, ↓W_ne1, ↓W_ne2, ↓W_ne3, ↓W_in1, ↓W_in2, ↓W_in3, ↓W_in4, ↓W_in5, ↓W_is1, ↓W_is2, ↓W_at, ↓W_atS, ↓W_ix1, ↓W_ix2, ↓W_ix3, ↓W_ix4, ↓W_sl, ↓W_on, ↓W_os, ↓W_part, ↓W_sl1, ↓W_sl2, ↓W_sl3, ↓W_sl4, ↓W_len1, ↓W_len2, ↓W_len3, ↓W_len4, ↓W_abs, ↓W_intf, ↓W_strf, ↓W_list1, ↓W_list2, ↓W_list3, ↓W_tup1, ↓W_tup2, ↓W_tup3, ↓W_max, ↓W_min, ↓W_allK, ↓W_all1, ↓W_isi1, ↓W_isi2, ↓W_k_ns, ↓W_k_bs, ↓W_k_is, ↓W_k_ss, ↓W_k_ts, ↓W_k_ls, ↓W_k_nb, ↓W_k_bb, ↓W_k_ib, ↓W_k_sb, ↓W_k_tb, ↓W_k_lb, ↓W_k_ni, ↓W_k_bi, ↓W_k_ii, ↓W_k_si, ↓W_k_ti, ↓W_k_li, ↓W_k_nt, ↓W_k_bt, ↓W_k_it, ↓W_k_st, ↓W_k_tt, ↓W_k_lt, ↓W_k_nl, ↓W_k_bl, ↓W_k_il, ↓W_k_sl, ↓W_k_tl, ↓W_k_ll, ↓W_valsK, ↓W_etup, ↓W_elst, ↓W_vals0, ↓W_vals1, ↓W_bool, ↓W_bool1, ↓W_tand, ↓W_tor, ↓W_tnot, ↓W_tru, ↓W_tru1, ↓W_tru2, ↓W_tru3, ↓W_tru4, ↓W_tru5, ↓W_tru6, ↓W_tru7, ↓W_bo, ↓W_eand, ↓W_eor, ↓W_enot, ↓W_ink, ↓W_eneg, ↓W_snil, ↓W_seq, ↓W_asg, ↓W_asg1, ↓W_asg2, ↓W_asg3, ↓W_ret, ↓W_hand1, ↓W_hand2, ↓W_hand3, ↓W_hand4, ↓W_expr, ↓W_if, ↓W_for, ↓W_any, ↓W_it1, ↓W_it2, ↓W_it3, ↓W_rg1, ↓W_lc, ↓W_bn, ↓W_yes, ↓W_ownK, ↓W_mut, ↓W_app, ↓W_ins, ↓W_setK, ↓W_stK, ↓W_setIx, ↓W_strK, ↓W_upper, ↓W_join1, ↓W_start, ↓W_slot1, ↓W_slot2, ↓W_arg1, ↓W_arg2, ↓W_sFrz, ↓W_strb, endsD, wipeE, List.foldr_cons, List.foldr_nil, List.length_cons, List.length_nil, List.map_cons, List.map_nil, List.cons_append, List.nil_append, List.append_nil, List.replicate, List.getElem?_cons_zero, List.getElem?_cons_succ, List.getElem?_nil, List.set_cons_zero, List.set_cons_succ, Nat.reduceAdd, Nat.reduceSub, Nat.zero_add, if_true, if_false, Bool.false_eq_true, Bool.not_true, Bool.not_false, true_and, and_true, List.forall_mem_cons, List.mem_cons, List.not_mem_nil, or_false, forall_eq_or_imp, forall_eq, false_and, and_false, implies_true, false_or, Option.map_some, Option.map_none, ite_self, Bool.and_true, Bool.true_and, Bool.and_false, Bool.false_and, List.forall_mem_nil, decide_true, decide_false, isNonD, signsD]
    refine ⟨⟨by decide, by decide, by decide⟩, lim_of (by decide), pick_lst (by simp) (by simp) fun d hd => ?_⟩
    simp -dsimp only [↓W_var, ↓W_var1, ↓W_var2, ↓W_var3, ↓W_c, ↓W_frz, ↓W_frz1, ↓W_frz2, ↓W_frz3, ↓W_frz4, ↓W_op, ↓W_call, ↓W_fn, ↓W_fn0, ↓W_fnK, ↓W_nil, ↓W_cons, ↓W_add1, ↓W_add2, ↓W_add3, ↓W_add4, ↓W_add5, ↓W_add6, ↓W_add7, ↓W_int, ↓W_int0, ↓W_mul1, ↓W_mul2, ↓W_eq1, ↓W_eq2, ↓W_eq3, ↓W_eq4, ↓W_ne1, ↓W_ne2, ↓W_ne3, ↓W_in1, ↓W_in2, ↓W_in3, ↓W_in4, ↓W_in5, ↓W_is1, ↓W_is2, ↓W_at, ↓W_atS, ↓W_ix1, ↓W_ix2, ↓W_ix3, ↓W_ix4, ↓W_sl, ↓W_on, ↓W_os, ↓W_part, ↓W_sl1, ↓W_sl2, ↓W_sl3, ↓W_sl4, ↓W_len1, ↓W_len2, ↓W_len3, ↓W_len4, ↓W_abs, ↓W_intf, ↓W_strf, ↓W_list1, ↓W_list2, ↓W_list3, ↓W_tup1, ↓W_tup2, ↓W_tup3, ↓W_max, ↓W_min, ↓W_allK, ↓W_all1, ↓W_isi1, ↓W_isi2, ↓W_k_ns, ↓W_k_bs, ↓W_k_is, ↓W_k_ss, ↓W_k_ts, ↓W_k_ls, ↓W_k_nb, ↓W_k_bb, ↓W_k_ib, ↓W_k_sb, ↓W_k_tb, ↓W_k_lb, ↓W_k_ni, ↓W_k_bi, ↓W_k_ii, ↓W_k_si, ↓W_k_ti, ↓W_k_li, ↓W_k_nt, ↓W_k_bt, ↓W_k_it, ↓W_k_st, ↓W_k_tt, ↓W_k_lt, ↓W_k_nl, ↓W_k_bl, ↓W_k_il, ↓W_k_sl, ↓W_k_tl, ↓W_k_ll, ↓W_valsK, ↓W_etup, ↓W_elst, ↓W_vals0, ↓W_vals1, ↓W_bool, ↓W_bool1, ↓W_tand, ↓W_tor, ↓W_tnot, ↓W_tru, ↓W_tru1, ↓W_tru2, ↓W_tru3, ↓W_tru4, ↓W_tru5, ↓W_tru6, ↓W_tru7, ↓W_bo, ↓W_eand, ↓W_eor, ↓W_enot, ↓W_ink, ↓W_eneg, ↓W_snil, ↓W_seq, ↓W_asg, ↓W_asg1, ↓W_asg2, ↓W_asg3, ↓W_ret, ↓W_hand1, ↓W_hand2, ↓W_hand3, ↓W_hand4, ↓W_expr, ↓W_if, ↓W_for, ↓W_any, ↓W_it1, ↓W_it2, ↓W_it3, ↓W_rg1, ↓W_lc, ↓W_bn, ↓W_yes, ↓W_ownK, ↓W_mut, ↓W_app, ↓W_ins, ↓W_setK, ↓W_stK, ↓W_setIx, ↓W_strK, ↓W_upper, ↓W_join1, ↓W_start, ↓W_slot1, ↓W_slot2, ↓W_arg1, ↓W_arg2, ↓W_sFrz, ↓W_strb, endsD, wipeE, List.foldr_cons, List.foldr_nil, List.length_cons, List.length_nil, List.map_cons, List.map_nil, List.cons_append, List.nil_append, List.append_nil, List.replicate, List.getElem?_cons_zero, List.getElem?_cons_succ, List.getElem?_nil, List.set_cons_zero, List.set_cons_succ, Nat.reduceAdd, Nat.reduceSub, Nat.zero_add, if_true, if_false, Bool.false_eq_true, Bool.not_true, Bool.not_false, true_and, and_true, List.forall_mem_cons, List.mem_cons, List.not_mem_nil, or_false, forall_eq_or_imp, forall_eq, false_and, and_false, implies_true, false_or, Option.map_some, Option.map_none, ite_self, Bool.and_true, Bool.true_and, Bool.and_false, Bool.false_and, List.forall_mem_nil, decide_true, decide_false, isNonD, signsD]
    simp only [List.mem_cons, List.not_mem_nil, or_false] at hd
    rcases hd with rfl | rfl | rfl | rfl | rfl | rfl | rfl | rfl <;> exact h _ trivial trivial
  refine number_of (by decide) (by decide) fun n n0 n1 => ?_
  simp -dsimp only [↓W_var, ↓W_var1, ↓W_var2, ↓W_var3, ↓W_c, ↓W_frz, ↓W_frz1, ↓W_frz2, ↓W_frz3, ↓W_frz4, ↓W_op, ↓W_call, ↓W_fn, ↓W_fn0, ↓W_fnK, ↓W_nil, ↓W_cons, ↓W_add1, ↓W_add2, ↓W_add3, ↓W_add4, ↓W_add5, ↓W_add6, ↓W_add7, ↓W_int, ↓W_int0, ↓W_mul1, ↓W_mul2, ↓W_eq1, ↓W_eq2, ↓W_eq3, ↓W_eq4, ↓W_ne1, ↓W_ne2, ↓W_ne3, ↓W_in1, ↓W_in2, ↓W_in3, ↓W_in4, ↓W_in5, ↓W_is1, ↓W_is2, ↓W_at, ↓W_atS, ↓W_ix1, ↓W_ix2, ↓W_ix3, ↓W_ix4, ↓W_sl, ↓W_on, ↓W_os, ↓W_part, ↓W_sl1, ↓W_sl2, ↓W_sl3, ↓W_sl4, ↓W_len1, ↓W_len2, ↓W_len3, ↓W_len4, ↓W_abs, ↓W_intf, ↓W_strf, ↓W_list1, ↓W_list2, ↓W_list3, ↓W_tup1, ↓W_tup2, ↓W_tup3, ↓W_max, ↓W_min, ↓W_allK, ↓W_all1, ↓W_isi1, ↓W_isi2, ↓W_k_ns, ↓W_k_bs, ↓W_k_is, ↓W_k_ss, ↓W_k_ts, ↓W_k_ls, ↓W_k_nb, ↓W_k_bb, ↓W_k_ib, ↓W_k_sb, ↓W_k_tb, ↓W_k_lb, ↓W_k_ni, ↓W_k_bi, ↓W_k_ii, ↓W_k_si, ↓W_k_ti, ↓W_k_li, ↓W_k_nt, ↓W_k_bt, ↓W_k_it, ↓W_k_st, ↓W_k_tt, ↓W_k_lt, ↓W_k_nl, ↓W_k_bl, ↓W_k_il, ↓W_k_sl, ↓W_k_tl, ↓W_k_ll, ↓W_valsK, ↓W_etup, ↓W_elst, ↓W_vals0, ↓W_vals1, ↓W_bool, ↓W_bool1, ↓W_tand, ↓W_tor, ↓W_tnot, ↓W_tru, ↓W_tru1, ↓W_tru2, ↓W_tru3, ↓W_tru4, ↓W_tru5, ↓W_tru6, ↓W_tru7, ↓W_bo, ↓W_eand, ↓W_eor, ↓W_enot, ↓W_ink, ↓W_eneg, ↓W_snil, ↓W_seq, ↓W_asg, ↓W_asg1, ↓W_asg2, ↓W_asg3, ↓W_ret, ↓W_hand1, ↓W_hand2, ↓W_hand3, ↓W_hand4, ↓W_expr, ↓W_if, ↓W_for, ↓W_any, ↓W_it1, ↓W_it2, ↓W_it3, ↓W_rg1, ↓W_lc, ↓W_bn, ↓W_yes, ↓W_ownK, ↓W_mut, ↓W_app, ↓W_ins, ↓W_setK, ↓W_stK, ↓W_setIx, ↓W_strK, ↓W_upper, ↓W_join1, ↓W_start, ↓W_slot1, ↓W_slot2, ↓W_arg1, ↓W_arg2, ↓W_sFrz, ↓W_strb, endsD, wipeE, List.foldr_cons, List.foldr_nil, List.length_cons, List.length_nil, List.map_cons, List.map_nil, List.cons_append, List.nil_append, List.append_nil, List.replicate, List.getElem?_cons_zero, List.getElem?_cons_succ, List.getElem?_nil, List.set_cons_zero, List.set_cons_succ, Nat.reduceAdd, Nat.reduceSub, Nat.zero_add, if_true, if_false, Bool.false_eq_true, Bool.not_true, Bool.not_false, true_and, and_true, List.forall_mem_cons, List.mem_cons, List.not_mem_nil, or_false, forall_eq_or_imp, forall_eq, false_and, and_false, implies_true, false_or, Option.map_some, Option.map_none, ite_self, Bool.and_true, Bool.true_and, Bool.and_false, Bool.false_and, List.forall_mem_nil, decide_true, decide_false, isNonD, signsD]
  refine ⟨n, rfl, by omega, by omega, fun s hs => ?_⟩
  simp -dsimp only [↓W_var, ↓W_var1, ↓W_var2, ↓W_var3, ↓W_c, ↓W_frz, ↓W_frz1, ↓W_frz2, ↓W_frz3, ↓W_frz4, ↓W_op, ↓W_call, ↓W_fn, ↓W_fn0, ↓W_fnK, ↓W_nil, ↓W_cons, ↓W_add1, ↓W_add2, ↓W_add3, ↓W_add4, ↓W_add5, ↓W_add6, ↓W_add7, ↓W_int, ↓W_int0, ↓W_mul1, ↓W_mul2, ↓W_eq1, ↓W_eq2, ↓W_eq3, ↓W_eq4, ↓W_ne1, ↓W_ne2, ↓W_ne3, ↓W_in1, ↓W_in2, ↓W_in3, ↓W_in4, ↓W_in5, ↓W_is1, ↓W_is2, ↓W_at, ↓W_atS, ↓W_ix1, ↓W_ix2, ↓W_ix3, ↓W_ix4, ↓W_sl, ↓W_on, ↓W_os, ↓W_part, ↓W_sl1, ↓W_sl2, ↓W_sl3, ↓W_sl4, ↓W_len1, ↓W_len2, ↓W_len3, ↓W_len4, ↓W_abs, ↓W_intf, ↓W_strf, ↓W_list1, ↓W_list2, ↓W_list3, ↓W_tup1, ↓W_tup2, ↓W_tup3, ↓W_max, ↓W_min, ↓W_allK, ↓W_all1, ↓W_isi1, ↓W_isi2, ↓W_k_ns, ↓W_k_bs, ↓W_k_is, ↓W_k_ss, ↓W_k_ts, ↓W_k_ls, ↓W_k_nb, ↓W_k_bb, ↓W_k_ib, ↓W_k_sb, ↓W_k_tb, ↓W_k_lb, ↓W_k_ni, ↓W_k_bi, ↓W_k_ii, ↓W_k_si, ↓W_k_ti, ↓W_k_li, ↓W_k_nt, ↓W_k_bt, ↓W_k_it, ↓W_k_st, ↓W_k_tt, ↓W_k_lt, ↓W_k_nl, ↓W_k_bl, ↓W_k_il, ↓W_k_sl, ↓W_k_tl, ↓W_k_ll, ↓W_valsK, ↓W_etup, ↓W_elst, ↓W_vals0, ↓W_vals1, ↓W_bool, ↓W_bool1, ↓W_tand, ↓W_tor, ↓W_tnot, ↓W_tru, ↓W_tru1, ↓W_tru2, ↓W_tru3, ↓W_tru4, ↓W_tru5, ↓W_tru6, ↓W_tru7, ↓W_bo, ↓W_eand, ↓W_eor, ↓W_enot, ↓W_ink, ↓W_eneg, ↓W_snil, ↓W_seq, ↓W_asg, ↓W_asg1, ↓W_asg2, ↓W_asg3, ↓W_ret, ↓W_hand1, ↓W_hand2, ↓W_hand3, ↓W_hand4, ↓W_expr, ↓W_if, ↓W_for, ↓W_any, ↓W_it1, ↓W_it2, ↓W_it3, ↓W_rg1, ↓W_lc, ↓W_bn, ↓W_yes, ↓W_ownK, ↓W_mut, ↓W_app, ↓W_ins, ↓W_setK, ↓W_stK, ↓W_setIx, ↓W_strK, ↓W_upper, ↓W_join1, ↓W_start, ↓W_slot1, ↓W_slot2, ↓W_arg1, ↓W_arg2, ↓W_sFrz, ↓W_strb, endsD, wipeE, List.foldr_cons, List.foldr_nil, List.length_cons, List.length_nil, List.map_cons, List.map_nil, List.cons_append, List.nil_append, List.append_nil, List.replicate, List.getElem?_cons_zero, List.getElem?_cons_succ, List.getElem?_nil, List.set_cons_zero, List.set_cons_succ, Nat.reduceAdd, Nat.reduceSub, Nat.zero_add, if_true, if_false, Bool.false_eq_true, Bool.not_true, Bool.not_false, true_and, and_true, List.forall_mem_cons, List.mem_cons, List.not_mem_nil, or_false, forall_eq_or_imp, forall_eq, false_and, and_false, implies_true, false_or, Option.map_some, Option.map_none, ite_self, Bool.and_true, Bool.true_and, Bool.and_false, Bool.false_and, List.forall_mem_nil, decide_true, decide_false, isNonD, signsD]
  exact h _ (by show _ ≤ _; omega) trivial

end
end K00

namespace K00
open PySem PySem.Spec L2 DL
section
variable {P : Program} {w : World} {K : PySem.W.Frag} {mg : Str → Option Value} {base : Heap} {A : TxA}

/-- the store is made -/
def sp__law_store (K : PySem.W.Frag) : Sp := fun vs H Q _ => ∃ (a : Addr) (ns : List Int), vs = [.ref a] ∧ SqL K H a (ns.map V.int) ∧ ns.length ≤ 63 ∧ ∀ (H' : Hp) (st c : Addr) (sd : Int), Evl.Ex H H' → H st = none → H c = none → c ≠ st → H' st = some (.lst [.ref c, .int 0, .int 0, .int sd, .int 0]) → H' c = some (.lst (ns.map V.int)) → 0 ≤ sd → sd < 2147483648 → Q (.ref st) H'
theorem ok__law_store (T : Tx K mg A) : FnOk P w K mg base (L2.CX P w) 1 A.a__law_store A.f__law_store ["script"] (sp__law_store K) := by
  refine T.F__law_store.okX sc__law_store (fun vs H Q E h => ?_) (fun cdv A0 outer s H vs Q E hr h => ?_)
  · obtain ⟨a, ns, rfl, _⟩ := h
    rfl
  · obtain ⟨a, ns, rfl, hS, hl, hf⟩ := h
    have tk : Takes (cxOf (L2.CX P w) P w K mg base N__law_store "_law_store" (defScope s__law_store) A.a__law_store cdv A0 outer s H E) (fun cls d _ H => E cls d H) := takes_of rfl rfl rfl rfl
    refine ⟨_, pss_cons (ps_setLc (i := 1) (own := [("cell", 3)]) rfl sc__law_store.nd rfl rfl (sw_true rfl rfl rfl rfl) (pi_list (pe_slice sl_list (pv 0) po_none (po_some pe_int))) (blkOk_by (own := [("cell", 3)]) (N := N__law_store) (sc := defScope s__law_store) (by decide +kernel))
        (fun _ _ _ _ _ => pg_name (i := 3) sc__law_store.nd rfl (by first | exact Or.inl rfl | exact Or.inr rfl)) (fun _ _ _ _ _ => pts_nil) (fun _ _ _ _ _ => pe_callTy call_int1 (by rfl) T.m_int (by decide +kernel) (pa_cons (pv 3) pa_nil)))
      (pss_cons (ps_set (i := 2) sc__law_store.nd rfl (.inl rfl) pe_int)
      (pss_cons (ps_for (by exact (passes_of rfl)) rfl (pi_list (pv 1)) (pg_name (i := 3) sc__law_store.nd rfl (.inl rfl)) (pss_one (ps_set (i := 2) sc__law_store.nd rfl (.inl rfl)
        (pe_op op_modN (pe_callTy call_int1 (by rfl) T.m_int (by decide +kernel) (pa_cons (pe_op op_add (pe_op op_add (pe_op op_mul (pv 2) pe_int) (pe_op op_modN (pe_callTy call_int1 (by rfl) T.m_int (by decide +kernel) (pa_cons (pv 3) pa_nil)) pe_int)) pe_int) pa_nil)) pe_int))))
      (pss_one (ps_ret (pe_lst (pa_cons (pv 1) (pa_cons pe_int (pa_cons pe_int (pa_cons (pv 2) (pa_cons pe_int pa_nil)))))))))), ?_⟩
    have ec : cutV (ns.map V.int) none (some 63) = ns.map V.int := by
      unfold cutV
      rw [HT.sIx_none, show (63 : Int) = ((63 : Nat) : Int) from rfl, HT.sIx_nat, List.length_map, List.drop_zero]
      exact List.take_of_length_le (by rw [List.length_map]; omega)
    refine ⟨_, rfl, 63, rfl, ⟨a, _, rfl, hS, fun p hp => ⟨p, rfl, ⟨_, .inl (.inl upd_same)⟩, fun D hD => ?_⟩⟩⟩
    rw [ec] at hD ⊢
    have nDp : D ≠ p := fun z => by subst z; rw [upd_same] at hD; cases hD
    have hD0 : H D = none := by rwa [upd_ne nDp] at hD
    refine lc_list (a := p) (xs := ns.map V.int) (fun i H' => H' = upd (upd H p (.lst (ns.map V.int))) D (.lst ((ns.take i).map V.int))) rfl (fun i H' _ e => ?_) (fun i x H' hx e => ?_) (fun H' e => ?_)
    · subst e
      exact .inl (.inl (by rw [upd_ne nDp.symm, upd_same]))
    · subst e
      rw [List.getElem?_map] at hx
      obtain ⟨z, hz, rfl⟩ := Option.map_eq_some_iff.mp hx
      refine ⟨rfl, ?_⟩
      refine ⟨_, rfl, .inl ⟨z, rfl, ⟨_, upd_same, ?_, ?_⟩⟩⟩
      · rw [List.length_map, List.length_take]
        exact Nat.lt_of_le_of_lt (Nat.min_le_right _ _) (Nat.lt_of_le_of_lt hl (by decide))
      · rw [upd_upd, List.take_add_one, hz, List.map_append]
        rfl
    · subst e
      rw [List.length_map, List.take_length]
      have sD : SqL K (upd (upd H p (.lst (ns.map V.int))) D (.lst (ns.map V.int))) D (ns.map V.int) := .inl (.inl upd_same)
      refine ⟨_, rfl, D, rfl, ⟨_, sD⟩, for_list (a := D) (xs := ns.map V.int) (fun i σ H' => ∃ y3 sd, σ = [some (.ref a), some (.ref D), some (.int sd), y3] ∧ 0 ≤ sd ∧ sd < 2147483648 ∧ H' = upd (upd H p (.lst (ns.map V.int))) D (.lst (ns.map V.int))) ⟨_, 30011, rfl, by decide, by decide, rfl⟩ (fun i σ H' _ q => ?_) (fun i x σ H' hx q => ?_) (fun σ H' q => ?_)⟩
      · obtain ⟨y3, sd, rfl, h0, h1, rfl⟩ := q
        exact sD
      · obtain ⟨y3, sd, rfl, h0, h1, rfl⟩ := q
        rw [List.getElem?_map] at hx
        obtain ⟨z, hz, rfl⟩ := Option.map_eq_some_iff.mp hx
        exact ⟨_, rfl, sd, 48271, rfl, rfl, .inr ⟨by decide, by decide⟩, _, rfl, .inl ⟨z, rfl, z, 2147483647, rfl, rfl, (show (2147483647 : Int) ≠ 0 by decide), _, _, rfl, rfl, _, _, rfl, rfl, .inl ⟨_, rfl, _, 2147483629, rfl, rfl, (show (2147483629 : Int) ≠ 0 by decide), ⟨_, _, rfl, Int.fmod_nonneg_of_pos _ (by decide), Int.lt_trans (Int.fmod_lt_of_pos _ (by decide)) (by decide), rfl⟩⟩⟩⟩
      · obtain ⟨y3, sd, rfl, h0, h1, rfl⟩ := q
        refine ⟨_, rfl, _, rfl, (show (5 : Nat) ≤ _ by decide), fun st hst => ?_⟩
        have nD : st ≠ D := fun z => by subst z; rw [upd_same] at hst; cases hst
        rw [upd_ne nD] at hst
        have np : st ≠ p := fun z => by subst z; rw [upd_same] at hst; cases hst
        rw [upd_ne np] at hst
        refine hf _ st D sd (fun b o e => ?_) hst hD0 nD.symm upd_same (by rw [upd_ne nD.symm, upd_same]) h0 h1
        rw [upd_ne (ne_of_none e hst), upd_ne (ne_of_none e hD0), upd_ne (ne_of_none e hp)]
        exact e

end
end K00

namespace K00
open PySem PySem.Spec L2 DL
section
variable {P : Program} {w : World} {K : PySem.W.Frag} {mg : Str → Option Value} {base : Heap} {A : TxA}

def ItemA (d : D) : Prop := match d with
  | .non => True
  | .bl _ => True
  | .int _ => True
  | .str s => s.length ≤ 900
  | .tup es => ∀ e ∈ es, isNameD e = true
  | _ => False
theorem sig_ok : ∀ c ∈ SIG.cps.toList, c < 1114112 := by decide +kernel
theorem name_py {e : D} (h : isNameD e = true) : okPy e = true ∧ (pyD e).canLay0 = true ∧ (pyD e).depth = 0 := by
  cases e with
  | str s =>
    refine ⟨rfl, ?_, by simp only [pyD, PyData.depth]⟩
    simp only [pyD, PyData.canLay0, PyData.strOk]
    have h2 : isNameS s = true := h
    simp only [isNameS, Bool.and_eq_true, List.all_eq_true, decide_eq_true_eq] at h2
    rw [Array.all_eq_true_iff_forall_mem]
    intro c hc
    have := sig_ok c (h2.2 c (by simpa using hc))
    simpa using this
  | _ => exact absurd h (by simp [isNameD])
theorem names_py : ∀ {es : List D}, (∀ e ∈ es, isNameD e = true) → okPys es = true ∧ PyData.canLayAll0 (pyDs es) = true ∧ PyData.depthAll (pyDs es) = 0
  | [], _ => ⟨rfl, by simp only [pyDs, PyData.canLayAll0], by simp only [pyDs, PyData.depthAll]⟩
  | d :: es, h => by
    obtain ⟨a, b, c⟩ := name_py (h d List.mem_cons_self)
    obtain ⟨a2, b2, c2⟩ := names_py fun e m => h e (List.mem_cons_of_mem _ m)
    refine ⟨?_, ?_, ?_⟩
    · simp only [okPys, a, a2, Bool.and_self]
    · simp only [pyDs, PyData.canLayAll0, b, b2, Bool.and_self]
    · simp only [pyDs, PyData.depthAll, c, c2, Nat.max_self]
theorem tup_py {es : List D} (h : ∀ e ∈ es, isNameD e = true) : okPy (.tup es) = true ∧ SeqAt.shaped (pyD (.tup es)) = true := by
  obtain ⟨a, b, c⟩ := names_py h
  refine ⟨by simp only [okPy, a], ?_⟩
  simp only [SeqAt.shaped, pyD, PyData.canLay0, PyData.depth, b, c]
  rfl
def sp__law_nearby : FD := fun rs Q _ => ∃ d, rs = [.val d] ∧ ItemA d ∧ ∀ es, (∀ e ∈ es, AskD e) → Q (.own es)
theorem mono__law_nearby : MonoF sp__law_nearby := fun rs Q Q' E E' hq he ⟨d, h1, h2, h3⟩ => ⟨d, h1, h2, fun es a => hq _ (h3 es a)⟩
theorem eq_any {d : D} {j : Int} {Q : RV → Prop} (h1 : okPy d = true) (h2 : SeqAt.shaped (pyD d) = true) (h : ∀ b, Q (.val (.bl b))) : eqlQ false (.val d) (.val (.int j)) Q := by
  cases d <;> first | exact h _ | exact ⟨_, _, rfl, rfl, h1, rfl, h2, rfl, h _⟩

theorem ok__law_nearby (T : Tx K mg A) : FnOk P w K mg base (L2.CX P w) 1 A.a__law_nearby A.f__law_nearby ["item"] (spD K 1 sp__law_nearby) := by
  refine fn_okD T.F__law_nearby sc__law_nearby (by decide) (fun cdv A0 outer s H E g hK hr cy => ?_)
  refine ⟨_, _, (dss_cons (ds_if (dt_tru cy (de_isi cy (by rfl) T.m_isinstance (da_cons (de_var 0) (da_cons (de_ty (n := "str") (by rfl) T.m_str (by decide +kernel)) da_nil)))) (dss_one (ds_ret (de_lst (da_cons (de_add cy (de_var 0) de_str) (da_cons (de_add cy (de_var 0) de_str) (da_cons (de_add cy de_str (de_var 0)) (da_cons (de_add cy (de_var 0) de_str) (da_cons (de_slice cy (de_var 0) (do_some de_int) do_none) (da_cons (de_slice cy (de_var 0) do_none (do_some (de_neg cy de_int))) (da_cons (de_upper (de_var 0)) (da_cons (de_lst (da_cons (de_var 0) da_nil)) (da_cons (de_tup (da_cons (de_var 0) da_nil)) da_nil)))))))))))) dss_nil)
    (dss_cons (ds_if (dt_tru cy (de_isi cy (by rfl) T.m_isinstance (da_cons (de_var 0) (da_cons (de_ty (n := "list") (by rfl) T.m_list (by decide +kernel)) da_nil)))) (dss_cons (ds_append cy 0 (pv 0) de_str)
    (dss_frz 0 (dss_one (ds_ret (de_lst (da_cons (de_var 0) (da_cons (de_tupf cy (by rfl) T.m_tuple (de_var 0)) (da_cons (de_strf cy (by rfl) T.m_str (de_len cy (by rfl) T.m_len (de_var 0))) (da_cons (de_len cy (by rfl) T.m_len (de_var 0)) da_nil))))))))) dss_nil)
    (dss_one (ds_ret (de_lst (da_cons (de_var 0) (da_cons (de_lst (da_cons (de_var 0) da_nil)) (da_cons de_str (da_cons (de_add cy de_str (de_strb cy (by rfl) T.m_str (de_eq cy (de_var 0) de_int))) da_nil))))))))), fun rs Q Ex hl h => ?_⟩
  obtain ⟨d, rfl, ha, h⟩ := h
  cases d with
  | str s =>
    simp -dsimp only [↓W_var, ↓W_var1, ↓W_var2, ↓W_var3, ↓W_c, ↓W_frz, ↓W_frz1, ↓W_frz2, ↓W_frz3, ↓W_frz4, ↓W_op, ↓W_call, ↓W_fn, ↓W_fn0, ↓W_fnK, ↓W_nil, ↓W_cons, ↓W_add1, ↓W_add2, ↓W_add3, ↓W_add4, ↓W_add5, ↓W_add6, ↓W_add7, ↓W_int, ↓W_int0, ↓W_mul1, ↓W_mul2, ↓W_eq1, ↓W_eq2, ↓W_eq3, ↓W_eq4, ↓W_ne1, ↓W_ne2, ↓W_ne3, ↓W_in1, ↓W_in2, ↓W_in3, ↓W_in4, ↓W_in5, ↓W_is1, ↓W_is2, ↓W_at, ↓W_atS, ↓W_ix1, ↓W_ix2, ↓W_ix3, ↓W_ix4, ↓W_sl, ↓W_on, ↓W_os, ↓W_part, ↓W_sl1, ↓W_sl2, ↓W_sl3, ↓W_sl4, ↓W_len1, ↓W_len2, ↓W_len3, ↓W_len4, ↓W_abs, ↓W_intf, ↓W_strf, ↓W_list1, ↓W_list2, ↓W_list3, ↓W_tup1, ↓W_tup2, ↓W_tup3, ↓W_max, ↓W_min, ↓W_allK, ↓W_all1, ↓W_isi1, ↓W_isi2, ↓W_k_ns, ↓W_k_bs, ↓W_k_is, ↓W_k_ss, ↓W_k_ts, ↓W_k_ls, ↓W_k_nb, ↓W_k_bb, ↓W_k_ib, ↓W_k_sb, ↓W_k_tb, ↓W_k_lb, ↓W_k_ni, ↓W_k_bi, ↓W_k_ii, ↓W_k_si, ↓W_k_ti, ↓W_k_li, ↓W_k_nt, ↓W_k_bt, ↓W_k_it, ↓W_k_st, ↓W_k_tt, ↓W_k_lt, ↓W_k_nl, ↓W_k_bl, ↓W_k_il, ↓W_k_sl, ↓W_k_tl, ↓W_k_ll, ↓W_valsK, ↓W_etup, ↓W_elst, ↓W_vals0, ↓W_vals1, ↓W_bool, ↓W_bool1, ↓W_tand, ↓W_tor, ↓W_tnot, ↓W_tru, ↓W_tru1, ↓W_tru2, ↓W_tru3, ↓W_tru4, ↓W_tru5, ↓W_tru6, ↓W_tru7, ↓W_bo, ↓W_eand, ↓W_eor, ↓W_enot, ↓W_ink, ↓W_eneg, ↓W_snil, ↓W_seq, ↓W_asg, ↓W_asg1, ↓W_asg2, ↓W_asg3, ↓W_ret, ↓W_hand1, ↓W_hand2, ↓W_hand3, ↓W_hand4, ↓W_expr, ↓W_if, ↓W_for, ↓W_any, ↓W_it1, ↓W_it2, ↓W_it3, ↓W_rg1, ↓W_lc, ↓W_bn, ↓W_yes, ↓W_ownK, ↓W_mut, ↓W_app, ↓W_ins, ↓W_setK, ↓W_stK, ↓W_setIx, ↓W_strK, ↓W_upper, ↓W_join1, ↓W_start, ↓W_slot1, ↓W_slot2, ↓W_arg1, ↓W_arg2, ↓W_sFrz, ↓W_strb, endsD, wipeE, List.foldr_cons, List.foldr_nil, List.length_cons, List.length_nil, List.map_cons, List.map_nil, List.cons_append, List.nil_append, List.append_nil, List.replicate, List.getElem?_cons_zero, List.getElem?_cons_succ, List.getElem?_nil, List.set_cons_zero, List.set_cons_succ, Nat.reduceAdd, Nat.reduceSub, Nat.zero_add, if_true, if_false, Bool.false_eq_true, Bool.not_true, Bool.not_false, true_and, and_true, List.forall_mem_cons, List.mem_cons, List.not_mem_nil, or_false, forall_eq_or_imp, forall_eq, false_and, and_false, implies_true, false_or, Option.map_some, Option.map_none, ite_self, Bool.and_true, Bool.true_and, Bool.and_false, Bool.false_and, List.forall_mem_nil, decide_true, decide_false, isNonD, signsD]
    have l1 : s.length ≤ 900 := ha
    have c1 := cutS_len s (some 1) none
    have c2 := cutS_len s none (some (-1))
    have c3 := len_upper s
    have d1 : (Str.ofString "a").length = 1 := by decide
    have d2 : (Str.ofString "0").length = 1 := by decide
    have d3 : (Str.ofString "\n").length = 1 := by decide
    refine ⟨lim_of (by omega), lim_of (by omega), lim_of (by omega), lim_of (by omega), lim_of (by omega), lim_of (by omega), lim_of (by omega), lim_of (by omega), lim_of (by omega), lim_of (by omega), h _ fun e me => ?_⟩
    simp only [List.mem_cons, List.not_mem_nil, or_false] at me
    rcases me with rfl | rfl | rfl | rfl | rfl | rfl | rfl | rfl | rfl
    · show (s ++ Str.ofString "a").length ≤ 5000
      rw [len_add]
      omega
    · show (s ++ Str.ofString "0").length ≤ 5000
      rw [len_add]
      omega
    · show (Str.ofString "0" ++ s).length ≤ 5000
      rw [len_add]
      omega
    · show (s ++ Str.ofString "\n").length ≤ 5000
      rw [len_add]
      omega
    · show (cutS s (some 1) none).length ≤ 5000
      omega
    · show (cutS s none (some (-1))).length ≤ 5000
      omega
    · show (Txt.upper s).length ≤ 5000
      omega
    · exact trivial
    · exact trivial
  | non => 
    simp -dsimp only [↓W_var, ↓W_var1, ↓W_var2, ↓W_var3, ↓W_c, ↓W_frz, ↓W_frz1, ↓W_frz2, ↓W_frz3, ↓W_frz4, ↓W_op, ↓W_call, ↓W_fn, ↓W_fn0, ↓W_fnK, ↓W_nil, ↓W_cons, ↓W_add1, ↓W_add2, ↓W_add3, ↓W_add4, ↓W_add5, ↓W_add6, ↓W_add7, ↓W_int, ↓W_int0, ↓W_mul1, ↓W_mul2, ↓W_eq1, ↓W_eq2, ↓W_eq3, ↓W_eq4, ↓W_ne1, ↓W_ne2, ↓W_ne3, ↓W_in1, ↓W_in2, ↓W_in3, ↓W_in4, ↓W_in5, ↓W_is1, ↓W_is2, ↓W_at, ↓W_atS, ↓W_ix1, ↓W_ix2, ↓W_ix3, ↓W_ix4, ↓W_sl, ↓W_on, ↓W_os, ↓W_part, ↓W_sl1, ↓W_sl2, ↓W_sl3, ↓W_sl4, ↓W_len1, ↓W_len2, ↓W_len3, ↓W_len4, ↓W_abs, ↓W_intf, ↓W_strf, ↓W_list1, ↓W_list2, ↓W_list3, ↓W_tup1, ↓W_tup2, ↓W_tup3, ↓W_max, ↓W_min, ↓W_allK, ↓W_all1, ↓W_isi1, ↓W_isi2, ↓W_k_ns, ↓W_k_bs, ↓W_k_is, ↓W_k_ss, ↓W_k_ts, ↓W_k_ls, ↓W_k_nb, ↓W_k_bb, ↓W_k_ib, ↓W_k_sb, ↓W_k_tb, ↓W_k_lb, ↓W_k_ni, ↓W_k_bi, ↓W_k_ii, ↓W_k_si, ↓W_k_ti, ↓W_k_li, ↓W_k_nt, ↓W_k_bt, ↓W_k_it, ↓W_k_st, ↓W_k_tt, ↓W_k_lt, ↓W_k_nl, ↓W_k_bl, ↓W_k_il, ↓W_k_sl, ↓W_k_tl, ↓W_k_ll, ↓W_valsK, ↓W_etup, ↓W_elst, ↓W_vals0, ↓W_vals1, ↓W_bool, ↓W_bool1, ↓W_tand, ↓W_tor, ↓W_tnot, ↓W_tru, ↓W_tru1, ↓W_tru2, ↓W_tru3, ↓W_tru4, ↓W_tru5, ↓W_tru6, ↓W_tru7, ↓W_bo, ↓W_eand, ↓W_eor, ↓W_enot, ↓W_ink, ↓W_eneg, ↓W_snil, ↓W_seq, ↓W_asg, ↓W_asg1, ↓W_asg2, ↓W_asg3, ↓W_ret, ↓W_hand1, ↓W_hand2, ↓W_hand3, ↓W_hand4, ↓W_expr, ↓W_if, ↓W_for, ↓W_any, ↓W_it1, ↓W_it2, ↓W_it3, ↓W_rg1, ↓W_lc, ↓W_bn, ↓W_yes, ↓W_ownK, ↓W_mut, ↓W_app, ↓W_ins, ↓W_setK, ↓W_stK, ↓W_setIx, ↓W_strK, ↓W_upper, ↓W_join1, ↓W_start, ↓W_slot1, ↓W_slot2, ↓W_arg1, ↓W_arg2, ↓W_sFrz, ↓W_strb, endsD, wipeE, List.foldr_cons, List.foldr_nil, List.length_cons, List.length_nil, List.map_cons, List.map_nil, List.cons_append, List.nil_append, List.append_nil, List.replicate, List.getElem?_cons_zero, List.getElem?_cons_succ, List.getElem?_nil, List.set_cons_zero, List.set_cons_succ, Nat.reduceAdd, Nat.reduceSub, Nat.zero_add, if_true, if_false, Bool.false_eq_true, Bool.not_true, Bool.not_false, true_and, and_true, List.forall_mem_cons, List.mem_cons, List.not_mem_nil, or_false, forall_eq_or_imp, forall_eq, false_and, and_false, implies_true, false_or, Option.map_some, Option.map_none, ite_self, Bool.and_true, Bool.true_and, Bool.and_false, Bool.false_and, List.forall_mem_nil, decide_true, decide_false, isNonD, signsD]
    refine ⟨lim_of (by decide), eq_any rfl rfl fun z => ?_⟩
    simp -dsimp only [↓W_var, ↓W_var1, ↓W_var2, ↓W_var3, ↓W_c, ↓W_frz, ↓W_frz1, ↓W_frz2, ↓W_frz3, ↓W_frz4, ↓W_op, ↓W_call, ↓W_fn, ↓W_fn0, ↓W_fnK, ↓W_nil, ↓W_cons, ↓W_add1, ↓W_add2, ↓W_add3, ↓W_add4, ↓W_add5, ↓W_add6, ↓W_add7, ↓W_int, ↓W_int0, ↓W_mul1, ↓W_mul2, ↓W_eq1, ↓W_eq2, ↓W_eq3, ↓W_eq4, ↓W_ne1, ↓W_ne2, ↓W_ne3, ↓W_in1, ↓W_in2, ↓W_in3, ↓W_in4, ↓W_in5, ↓W_is1, ↓W_is2, ↓W_at, ↓W_atS, ↓W_ix1, ↓W_ix2, ↓W_ix3, ↓W_ix4, ↓W_sl, ↓W_on, ↓W_os, ↓W_part, ↓W_sl1, ↓W_sl2, ↓W_sl3, ↓W_sl4, ↓W_len1, ↓W_len2, ↓W_len3, ↓W_len4, ↓W_abs, ↓W_intf, ↓W_strf, ↓W_list1, ↓W_list2, ↓W_list3, ↓W_tup1, ↓W_tup2, ↓W_tup3, ↓W_max, ↓W_min, ↓W_allK, ↓W_all1, ↓W_isi1, ↓W_isi2, ↓W_k_ns, ↓W_k_bs, ↓W_k_is, ↓W_k_ss, ↓W_k_ts, ↓W_k_ls, ↓W_k_nb, ↓W_k_bb, ↓W_k_ib, ↓W_k_sb, ↓W_k_tb, ↓W_k_lb, ↓W_k_ni, ↓W_k_bi, ↓W_k_ii, ↓W_k_si, ↓W_k_ti, ↓W_k_li, ↓W_k_nt, ↓W_k_bt, ↓W_k_it, ↓W_k_st, ↓W_k_tt, ↓W_k_lt, ↓W_k_nl, ↓W_k_bl, ↓W_k_il, ↓W_k_sl, ↓W_k_tl, ↓W_k_ll, ↓W_valsK, ↓W_etup, ↓W_elst, ↓W_vals0, ↓W_vals1, ↓W_bool, ↓W_bool1, ↓W_tand, ↓W_tor, ↓W_tnot, ↓W_tru, ↓W_tru1, ↓W_tru2, ↓W_tru3, ↓W_tru4, ↓W_tru5, ↓W_tru6, ↓W_tru7, ↓W_bo, ↓W_eand, ↓W_eor, ↓W_enot, ↓W_ink, ↓W_eneg, ↓W_snil, ↓W_seq, ↓W_asg, ↓W_asg1, ↓W_asg2, ↓W_asg3, ↓W_ret, ↓W_hand1, ↓W_hand2, ↓W_hand3, ↓W_hand4, ↓W_expr, ↓W_if, ↓W_for, ↓W_any, ↓W_it1, ↓W_it2, ↓W_it3, ↓W_rg1, ↓W_lc, ↓W_bn, ↓W_yes, ↓W_ownK, ↓W_mut, ↓W_app, ↓W_ins, ↓W_setK, ↓W_stK, ↓W_setIx, ↓W_strK, ↓W_upper, ↓W_join1, ↓W_start, ↓W_slot1, ↓W_slot2, ↓W_arg1, ↓W_arg2, ↓W_sFrz, ↓W_strb, endsD, wipeE, List.foldr_cons, List.foldr_nil, List.length_cons, List.length_nil, List.map_cons, List.map_nil, List.cons_append, List.nil_append, List.append_nil, List.replicate, List.getElem?_cons_zero, List.getElem?_cons_succ, List.getElem?_nil, List.set_cons_zero, List.set_cons_succ, Nat.reduceAdd, Nat.reduceSub, Nat.zero_add, if_true, if_false, Bool.false_eq_true, Bool.not_true, Bool.not_false, true_and, and_true, List.forall_mem_cons, List.mem_cons, List.not_mem_nil, or_false, forall_eq_or_imp, forall_eq, false_and, and_false, implies_true, false_or, Option.map_some, Option.map_none, ite_self, Bool.and_true, Bool.true_and, Bool.and_false, Bool.false_and, List.forall_mem_nil, decide_true, decide_false, isNonD, signsD]
    refine ⟨lim_of (by cases z <;> decide), lim_of (by decide), h _ fun e me => ?_⟩
    simp only [List.mem_cons, List.not_mem_nil, or_false] at me
    rcases me with rfl | rfl | rfl | rfl
    · exact trivial
    · exact trivial
    · show _ ≤ _
      decide
    · cases z
      · show _ ≤ _
        decide
      · show _ ≤ _
        decide
  | bl b => 
    simp -dsimp only [↓W_var, ↓W_var1, ↓W_var2, ↓W_var3, ↓W_c, ↓W_frz, ↓W_frz1, ↓W_frz2, ↓W_frz3, ↓W_frz4, ↓W_op, ↓W_call, ↓W_fn, ↓W_fn0, ↓W_fnK, ↓W_nil, ↓W_cons, ↓W_add1, ↓W_add2, ↓W_add3, ↓W_add4, ↓W_add5, ↓W_add6, ↓W_add7, ↓W_int, ↓W_int0, ↓W_mul1, ↓W_mul2, ↓W_eq1, ↓W_eq2, ↓W_eq3, ↓W_eq4, ↓W_ne1, ↓W_ne2, ↓W_ne3, ↓W_in1, ↓W_in2, ↓W_in3, ↓W_in4, ↓W_in5, ↓W_is1, ↓W_is2, ↓W_at, ↓W_atS, ↓W_ix1, ↓W_ix2, ↓W_ix3, ↓W_ix4, ↓W_sl, ↓W_on, ↓W_os, ↓W_part, ↓W_sl1, ↓W_sl2, ↓W_sl3, ↓W_sl4, ↓W_len1, ↓W_len2, ↓W_len3, ↓W_len4, ↓W_abs, ↓W_intf, ↓W_strf, ↓W_list1, ↓W_list2, ↓W_list3, ↓W_tup1, ↓W_tup2, ↓W_tup3, ↓W_max, ↓W_min, ↓W_allK, ↓W_all1, ↓W_isi1, ↓W_isi2, ↓W_k_ns, ↓W_k_bs, ↓W_k_is, ↓W_k_ss, ↓W_k_ts, ↓W_k_ls, ↓W_k_nb, ↓W_k_bb, ↓W_k_ib, ↓W_k_sb, ↓W_k_tb, ↓W_k_lb, ↓W_k_ni, ↓W_k_bi, ↓W_k_ii, ↓W_k_si, ↓W_k_ti, ↓W_k_li, ↓W_k_nt, ↓W_k_bt, ↓W_k_it, ↓W_k_st, ↓W_k_tt, ↓W_k_lt, ↓W_k_nl, ↓W_k_bl, ↓W_k_il, ↓W_k_sl, ↓W_k_tl, ↓W_k_ll, ↓W_valsK, ↓W_etup, ↓W_elst, ↓W_vals0, ↓W_vals1, ↓W_bool, ↓W_bool1, ↓W_tand, ↓W_tor, ↓W_tnot, ↓W_tru, ↓W_tru1, ↓W_tru2, ↓W_tru3, ↓W_tru4, ↓W_tru5, ↓W_tru6, ↓W_tru7, ↓W_bo, ↓W_eand, ↓W_eor, ↓W_enot, ↓W_ink, ↓W_eneg, ↓W_snil, ↓W_seq, ↓W_asg, ↓W_asg1, ↓W_asg2, ↓W_asg3, ↓W_ret, ↓W_hand1, ↓W_hand2, ↓W_hand3, ↓W_hand4, ↓W_expr, ↓W_if, ↓W_for, ↓W_any, ↓W_it1, ↓W_it2, ↓W_it3, ↓W_rg1, ↓W_lc, ↓W_bn, ↓W_yes, ↓W_ownK, ↓W_mut, ↓W_app, ↓W_ins, ↓W_setK, ↓W_stK, ↓W_setIx, ↓W_strK, ↓W_upper, ↓W_join1, ↓W_start, ↓W_slot1, ↓W_slot2, ↓W_arg1, ↓W_arg2, ↓W_sFrz, ↓W_strb, endsD, wipeE, List.foldr_cons, List.foldr_nil, List.length_cons, List.length_nil, List.map_cons, List.map_nil, List.cons_append, List.nil_append, List.append_nil, List.replicate, List.getElem?_cons_zero, List.getElem?_cons_succ, List.getElem?_nil, List.set_cons_zero, List.set_cons_succ, Nat.reduceAdd, Nat.reduceSub, Nat.zero_add, if_true, if_false, Bool.false_eq_true, Bool.not_true, Bool.not_false, true_and, and_true, List.forall_mem_cons, List.mem_cons, List.not_mem_nil, or_false, forall_eq_or_imp, forall_eq, false_and, and_false, implies_true, false_or, Option.map_some, Option.map_none, ite_self, Bool.and_true, Bool.true_and, Bool.and_false, Bool.false_and, List.forall_mem_nil, decide_true, decide_false, isNonD, signsD]
    refine ⟨lim_of (by decide), eq_any rfl rfl fun z => ?_⟩
    simp -dsimp only [↓W_var, ↓W_var1, ↓W_var2, ↓W_var3, ↓W_c, ↓W_frz, ↓W_frz1, ↓W_frz2, ↓W_frz3, ↓W_frz4, ↓W_op, ↓W_call, ↓W_fn, ↓W_fn0, ↓W_fnK, ↓W_nil, ↓W_cons, ↓W_add1, ↓W_add2, ↓W_add3, ↓W_add4, ↓W_add5, ↓W_add6, ↓W_add7, ↓W_int, ↓W_int0, ↓W_mul1, ↓W_mul2, ↓W_eq1, ↓W_eq2, ↓W_eq3, ↓W_eq4, ↓W_ne1, ↓W_ne2, ↓W_ne3, ↓W_in1, ↓W_in2, ↓W_in3, ↓W_in4, ↓W_in5, ↓W_is1, ↓W_is2, ↓W_at, ↓W_atS, ↓W_ix1, ↓W_ix2, ↓W_ix3, ↓W_ix4, ↓W_sl, ↓W_on, ↓W_os, ↓W_part, ↓W_sl1, ↓W_sl2, ↓W_sl3, ↓W_sl4, ↓W_len1, ↓W_len2, ↓W_len3, ↓W_len4, ↓W_abs, ↓W_intf, ↓W_strf, ↓W_list1, ↓W_list2, ↓W_list3, ↓W_tup1, ↓W_tup2, ↓W_tup3, ↓W_max, ↓W_min, ↓W_allK, ↓W_all1, ↓W_isi1, ↓W_isi2, ↓W_k_ns, ↓W_k_bs, ↓W_k_is, ↓W_k_ss, ↓W_k_ts, ↓W_k_ls, ↓W_k_nb, ↓W_k_bb, ↓W_k_ib, ↓W_k_sb, ↓W_k_tb, ↓W_k_lb, ↓W_k_ni, ↓W_k_bi, ↓W_k_ii, ↓W_k_si, ↓W_k_ti, ↓W_k_li, ↓W_k_nt, ↓W_k_bt, ↓W_k_it, ↓W_k_st, ↓W_k_tt, ↓W_k_lt, ↓W_k_nl, ↓W_k_bl, ↓W_k_il, ↓W_k_sl, ↓W_k_tl, ↓W_k_ll, ↓W_valsK, ↓W_etup, ↓W_elst, ↓W_vals0, ↓W_vals1, ↓W_bool, ↓W_bool1, ↓W_tand, ↓W_tor, ↓W_tnot, ↓W_tru, ↓W_tru1, ↓W_tru2, ↓W_tru3, ↓W_tru4, ↓W_tru5, ↓W_tru6, ↓W_tru7, ↓W_bo, ↓W_eand, ↓W_eor, ↓W_enot, ↓W_ink, ↓W_eneg, ↓W_snil, ↓W_seq, ↓W_asg, ↓W_asg1, ↓W_asg2, ↓W_asg3, ↓W_ret, ↓W_hand1, ↓W_hand2, ↓W_hand3, ↓W_hand4, ↓W_expr, ↓W_if, ↓W_for, ↓W_any, ↓W_it1, ↓W_it2, ↓W_it3, ↓W_rg1, ↓W_lc, ↓W_bn, ↓W_yes, ↓W_ownK, ↓W_mut, ↓W_app, ↓W_ins, ↓W_setK, ↓W_stK, ↓W_setIx, ↓W_strK, ↓W_upper, ↓W_join1, ↓W_start, ↓W_slot1, ↓W_slot2, ↓W_arg1, ↓W_arg2, ↓W_sFrz, ↓W_strb, endsD, wipeE, List.foldr_cons, List.foldr_nil, List.length_cons, List.length_nil, List.map_cons, List.map_nil, List.cons_append, List.nil_append, List.append_nil, List.replicate, List.getElem?_cons_zero, List.getElem?_cons_succ, List.getElem?_nil, List.set_cons_zero, List.set_cons_succ, Nat.reduceAdd, Nat.reduceSub, Nat.zero_add, if_true, if_false, Bool.false_eq_true, Bool.not_true, Bool.not_false, true_and, and_true, List.forall_mem_cons, List.mem_cons, List.not_mem_nil, or_false, forall_eq_or_imp, forall_eq, false_and, and_false, implies_true, false_or, Option.map_some, Option.map_none, ite_self, Bool.and_true, Bool.true_and, Bool.and_false, Bool.false_and, List.forall_mem_nil, decide_true, decide_false, isNonD, signsD]
    refine ⟨lim_of (by cases z <;> decide), lim_of (by decide), h _ fun e me => ?_⟩
    simp only [List.mem_cons, List.not_mem_nil, or_false] at me
    rcases me with rfl | rfl | rfl | rfl
    · exact trivial
    · exact trivial
    · show _ ≤ _
      decide
    · cases z
      · show _ ≤ _
        decide
      · show _ ≤ _
        decide
  | int i => 
    simp -dsimp only [↓W_var, ↓W_var1, ↓W_var2, ↓W_var3, ↓W_c, ↓W_frz, ↓W_frz1, ↓W_frz2, ↓W_frz3, ↓W_frz4, ↓W_op, ↓W_call, ↓W_fn, ↓W_fn0, ↓W_fnK, ↓W_nil, ↓W_cons, ↓W_add1, ↓W_add2, ↓W_add3, ↓W_add4, ↓W_add5, ↓W_add6, ↓W_add7, ↓W_int, ↓W_int0, ↓W_mul1, ↓W_mul2, ↓W_eq1, ↓W_eq2, ↓W_eq3, ↓W_eq4, ↓W_ne1, ↓W_ne2, ↓W_ne3, ↓W_in1, ↓W_in2, ↓W_in3, ↓W_in4, ↓W_in5, ↓W_is1, ↓W_is2, ↓W_at, ↓W_atS, ↓W_ix1, ↓W_ix2, ↓W_ix3, ↓W_ix4, ↓W_sl, ↓W_on, ↓W_os, ↓W_part, ↓W_sl1, ↓W_sl2, ↓W_sl3, ↓W_sl4, ↓W_len1, ↓W_len2, ↓W_len3, ↓W_len4, ↓W_abs, ↓W_intf, ↓W_strf, ↓W_list1, ↓W_list2, ↓W_list3, ↓W_tup1, ↓W_tup2, ↓W_tup3, ↓W_max, ↓W_min, ↓W_allK, ↓W_all1, ↓W_isi1, ↓W_isi2, ↓W_k_ns, ↓W_k_bs, ↓W_k_is, ↓W_k_ss, ↓W_k_ts, ↓W_k_ls, ↓W_k_nb, ↓W_k_bb, ↓W_k_ib, ↓W_k_sb, ↓W_k_tb, ↓W_k_lb, ↓W_k_ni, ↓W_k_bi, ↓W_k_ii, ↓W_k_si, ↓W_k_ti, ↓W_k_li, ↓W_k_nt, ↓W_k_bt, ↓W_k_it, ↓W_k_st, ↓W_k_tt, ↓W_k_lt, ↓W_k_nl, ↓W_k_bl, ↓W_k_il, ↓W_k_sl, ↓W_k_tl, ↓W_k_ll, ↓W_valsK, ↓W_etup, ↓W_elst, ↓W_vals0, ↓W_vals1, ↓W_bool, ↓W_bool1, ↓W_tand, ↓W_tor, ↓W_tnot, ↓W_tru, ↓W_tru1, ↓W_tru2, ↓W_tru3, ↓W_tru4, ↓W_tru5, ↓W_tru6, ↓W_tru7, ↓W_bo, ↓W_eand, ↓W_eor, ↓W_enot, ↓W_ink, ↓W_eneg, ↓W_snil, ↓W_seq, ↓W_asg, ↓W_asg1, ↓W_asg2, ↓W_asg3, ↓W_ret, ↓W_hand1, ↓W_hand2, ↓W_hand3, ↓W_hand4, ↓W_expr, ↓W_if, ↓W_for, ↓W_any, ↓W_it1, ↓W_it2, ↓W_it3, ↓W_rg1, ↓W_lc, ↓W_bn, ↓W_yes, ↓W_ownK, ↓W_mut, ↓W_app, ↓W_ins, ↓W_setK, ↓W_stK, ↓W_setIx, ↓W_strK, ↓W_upper, ↓W_join1, ↓W_start, ↓W_slot1, ↓W_slot2, ↓W_arg1, ↓W_arg2, ↓W_sFrz, ↓W_strb, endsD, wipeE, List.foldr_cons, List.foldr_nil, List.length_cons, List.length_nil, List.map_cons, List.map_nil, List.cons_append, List.nil_append, List.append_nil, List.replicate, List.getElem?_cons_zero, List.getElem?_cons_succ, List.getElem?_nil, List.set_cons_zero, List.set_cons_succ, Nat.reduceAdd, Nat.reduceSub, Nat.zero_add, if_true, if_false, Bool.false_eq_true, Bool.not_true, Bool.not_false, true_and, and_true, List.forall_mem_cons, List.mem_cons, List.not_mem_nil, or_false, forall_eq_or_imp, forall_eq, false_and, and_false, implies_true, false_or, Option.map_some, Option.map_none, ite_self, Bool.and_true, Bool.true_and, Bool.and_false, Bool.false_and, List.forall_mem_nil, decide_true, decide_false, isNonD, signsD]
    refine ⟨lim_of (by decide), lim_of (by split <;> decide), lim_of (by decide), h _ fun e me => ?_⟩
    simp only [List.mem_cons, List.not_mem_nil, or_false] at me
    rcases me with rfl | rfl | rfl | rfl
    · exact trivial
    · exact trivial
    · show _ ≤ _
      decide
    · show Str.length _ ≤ _
      rw [len_add]
      have : (if decide (i = 1) = true then Str.ofString "True" else Str.ofString "False").length ≤ 5 := by split <;> decide
      have d1 : (Str.ofString "a").length = 1 := by decide
      omega
  | tup ds => 
    simp -dsimp only [↓W_var, ↓W_var1, ↓W_var2, ↓W_var3, ↓W_c, ↓W_frz, ↓W_frz1, ↓W_frz2, ↓W_frz3, ↓W_frz4, ↓W_op, ↓W_call, ↓W_fn, ↓W_fn0, ↓W_fnK, ↓W_nil, ↓W_cons, ↓W_add1, ↓W_add2, ↓W_add3, ↓W_add4, ↓W_add5, ↓W_add6, ↓W_add7, ↓W_int, ↓W_int0, ↓W_mul1, ↓W_mul2, ↓W_eq1, ↓W_eq2, ↓W_eq3, ↓W_eq4, ↓W_ne1, ↓W_ne2, ↓W_ne3, ↓W_in1, ↓W_in2, ↓W_in3, ↓W_in4, ↓W_in5, ↓W_is1, ↓W_is2, ↓W_at, ↓W_atS, ↓W_ix1, ↓W_ix2, ↓W_ix3, ↓W_ix4, ↓W_sl, ↓W_on, ↓W_os, ↓W_part, ↓W_sl1, ↓W_sl2, ↓W_sl3, ↓W_sl4, ↓W_len1, ↓W_len2, ↓W_len3, ↓W_len4, ↓W_abs, ↓W_intf, ↓W_strf, ↓W_list1, ↓W_list2, ↓W_list3, ↓W_tup1, ↓W_tup2, ↓W_tup3, ↓W_max, ↓W_min, ↓W_allK, ↓W_all1, ↓W_isi1, ↓W_isi2, ↓W_k_ns, ↓W_k_bs, ↓W_k_is, ↓W_k_ss, ↓W_k_ts, ↓W_k_ls, ↓W_k_nb, ↓W_k_bb, ↓W_k_ib, ↓W_k_sb, ↓W_k_tb, ↓W_k_lb, ↓W_k_ni, ↓W_k_bi, ↓W_k_ii, ↓W_k_si, ↓W_k_ti, ↓W_k_li, ↓W_k_nt, ↓W_k_bt, ↓W_k_it, ↓W_k_st, ↓W_k_tt, ↓W_k_lt, ↓W_k_nl, ↓W_k_bl, ↓W_k_il, ↓W_k_sl, ↓W_k_tl, ↓W_k_ll, ↓W_valsK, ↓W_etup, ↓W_elst, ↓W_vals0, ↓W_vals1, ↓W_bool, ↓W_bool1, ↓W_tand, ↓W_tor, ↓W_tnot, ↓W_tru, ↓W_tru1, ↓W_tru2, ↓W_tru3, ↓W_tru4, ↓W_tru5, ↓W_tru6, ↓W_tru7, ↓W_bo, ↓W_eand, ↓W_eor, ↓W_enot, ↓W_ink, ↓W_eneg, ↓W_snil, ↓W_seq, ↓W_asg, ↓W_asg1, ↓W_asg2, ↓W_asg3, ↓W_ret, ↓W_hand1, ↓W_hand2, ↓W_hand3, ↓W_hand4, ↓W_expr, ↓W_if, ↓W_for, ↓W_any, ↓W_it1, ↓W_it2, ↓W_it3, ↓W_rg1, ↓W_lc, ↓W_bn, ↓W_yes, ↓W_ownK, ↓W_mut, ↓W_app, ↓W_ins, ↓W_setK, ↓W_stK, ↓W_setIx, ↓W_strK, ↓W_upper, ↓W_join1, ↓W_start, ↓W_slot1, ↓W_slot2, ↓W_arg1, ↓W_arg2, ↓W_sFrz, ↓W_strb, endsD, wipeE, List.foldr_cons, List.foldr_nil, List.length_cons, List.length_nil, List.map_cons, List.map_nil, List.cons_append, List.nil_append, List.append_nil, List.replicate, List.getElem?_cons_zero, List.getElem?_cons_succ, List.getElem?_nil, List.set_cons_zero, List.set_cons_succ, Nat.reduceAdd, Nat.reduceSub, Nat.zero_add, if_true, if_false, Bool.false_eq_true, Bool.not_true, Bool.not_false, true_and, and_true, List.forall_mem_cons, List.mem_cons, List.not_mem_nil, or_false, forall_eq_or_imp, forall_eq, false_and, and_false, implies_true, false_or, Option.map_some, Option.map_none, ite_self, Bool.and_true, Bool.true_and, Bool.and_false, Bool.false_and, List.forall_mem_nil, decide_true, decide_false, isNonD, signsD]
    refine ⟨lim_of (by decide), eq_any (tup_py ha).1 (tup_py ha).2 fun z => ?_⟩
    simp -dsimp only [↓W_var, ↓W_var1, ↓W_var2, ↓W_var3, ↓W_c, ↓W_frz, ↓W_frz1, ↓W_frz2, ↓W_frz3, ↓W_frz4, ↓W_op, ↓W_call, ↓W_fn, ↓W_fn0, ↓W_fnK, ↓W_nil, ↓W_cons, ↓W_add1, ↓W_add2, ↓W_add3, ↓W_add4, ↓W_add5, ↓W_add6, ↓W_add7, ↓W_int, ↓W_int0, ↓W_mul1, ↓W_mul2, ↓W_eq1, ↓W_eq2, ↓W_eq3, ↓W_eq4, ↓W_ne1, ↓W_ne2, ↓W_ne3, ↓W_in1, ↓W_in2, ↓W_in3, ↓W_in4, ↓W_in5, ↓W_is1, ↓W_is2, ↓W_at, ↓W_atS, ↓W_ix1, ↓W_ix2, ↓W_ix3, ↓W_ix4, ↓W_sl, ↓W_on, ↓W_os, ↓W_part, ↓W_sl1, ↓W_sl2, ↓W_sl3, ↓W_sl4, ↓W_len1, ↓W_len2, ↓W_len3, ↓W_len4, ↓W_abs, ↓W_intf, ↓W_strf, ↓W_list1, ↓W_list2, ↓W_list3, ↓W_tup1, ↓W_tup2, ↓W_tup3, ↓W_max, ↓W_min, ↓W_allK, ↓W_all1, ↓W_isi1, ↓W_isi2, ↓W_k_ns, ↓W_k_bs, ↓W_k_is, ↓W_k_ss, ↓W_k_ts, ↓W_k_ls, ↓W_k_nb, ↓W_k_bb, ↓W_k_ib, ↓W_k_sb, ↓W_k_tb, ↓W_k_lb, ↓W_k_ni, ↓W_k_bi, ↓W_k_ii, ↓W_k_si, ↓W_k_ti, ↓W_k_li, ↓W_k_nt, ↓W_k_bt, ↓W_k_it, ↓W_k_st, ↓W_k_tt, ↓W_k_lt, ↓W_k_nl, ↓W_k_bl, ↓W_k_il, ↓W_k_sl, ↓W_k_tl, ↓W_k_ll, ↓W_valsK, ↓W_etup, ↓W_elst, ↓W_vals0, ↓W_vals1, ↓W_bool, ↓W_bool1, ↓W_tand, ↓W_tor, ↓W_tnot, ↓W_tru, ↓W_tru1, ↓W_tru2, ↓W_tru3, ↓W_tru4, ↓W_tru5, ↓W_tru6, ↓W_tru7, ↓W_bo, ↓W_eand, ↓W_eor, ↓W_enot, ↓W_ink, ↓W_eneg, ↓W_snil, ↓W_seq, ↓W_asg, ↓W_asg1, ↓W_asg2, ↓W_asg3, ↓W_ret, ↓W_hand1, ↓W_hand2, ↓W_hand3, ↓W_hand4, ↓W_expr, ↓W_if, ↓W_for, ↓W_any, ↓W_it1, ↓W_it2, ↓W_it3, ↓W_rg1, ↓W_lc, ↓W_bn, ↓W_yes, ↓W_ownK, ↓W_mut, ↓W_app, ↓W_ins, ↓W_setK, ↓W_stK, ↓W_setIx, ↓W_strK, ↓W_upper, ↓W_join1, ↓W_start, ↓W_slot1, ↓W_slot2, ↓W_arg1, ↓W_arg2, ↓W_sFrz, ↓W_strb, endsD, wipeE, List.foldr_cons, List.foldr_nil, List.length_cons, List.length_nil, List.map_cons, List.map_nil, List.cons_append, List.nil_append, List.append_nil, List.replicate, List.getElem?_cons_zero, List.getElem?_cons_succ, List.getElem?_nil, List.set_cons_zero, List.set_cons_succ, Nat.reduceAdd, Nat.reduceSub, Nat.zero_add, if_true, if_false, Bool.false_eq_true, Bool.not_true, Bool.not_false, true_and, and_true, List.forall_mem_cons, List.mem_cons, List.not_mem_nil, or_false, forall_eq_or_imp, forall_eq, false_and, and_false, implies_true, false_or, Option.map_some, Option.map_none, ite_self, Bool.and_true, Bool.true_and, Bool.and_false, Bool.false_and, List.forall_mem_nil, decide_true, decide_false, isNonD, signsD]
    refine ⟨lim_of (by cases z <;> decide), lim_of (by decide), h _ fun e me => ?_⟩
    simp only [List.mem_cons, List.not_mem_nil, or_false] at me
    rcases me with rfl | rfl | rfl | rfl
    · exact trivial
    · exact trivial
    · show _ ≤ _
      decide
    · cases z
      · show _ ≤ _
        decide
      · show _ ≤ _
        decide
  | _ => exact ha.elim

end
end K00

namespace K00
open PySem PySem.Spec L2 DL
section
variable {P : Program} {w : World} {K : PySem.W.Frag} {mg : Str → Option Value} {base : Heap} {A : TxA}

def SB : Str := Str.ofString "b"
/-- .. of a list: it is lengthened -/
def spNearB (K : PySem.W.Frag) : Sp := fun vs H Q _ => ∃ (st : Addr) (F : Hp) (p : Addr) (ss : List Str), vs = [.ref p] ∧ StoreAt K st 0 F H ∧ Evl.Ex F H ∧ F p = some (.lst (ss.map V.str)) ∧ ss.length ≤ 1500 ∧
  ∀ (F' H' : Hp) (q : Addr) (us : List V), (∀ b x, b ≠ p → F b = some x → F' b = some x) → F' p = some (.lst ((ss ++ [SB]).map V.str)) → Evl.Ex F' H' → StoreAt K st 0 F' H' → H' q = some (.lst us) →
    RepL K F' [.lst ((ss ++ [SB]).map D.str), .tup ((ss ++ [SB]).map D.str), .str (toString (((ss ++ [SB]).length : Nat) : Int)), .int (((ss ++ [SB]).length : Nat) : Int)] us → Q (.ref q) H'
theorem okB__law_nearby (T : Tx K mg A) : FnOk P w K mg base (L2.CX P w) 1 A.a__law_nearby A.f__law_nearby ["item"] (spNearB K) := by
  refine T.F__law_nearby.okX sc__law_nearby (fun vs H Q E h => ?_) (fun cdv A0 outer s H vs Q E hr h => ?_)
  · obtain ⟨st, F, p, ss, rfl, _⟩ := h
    rfl
  · obtain ⟨st, F, p, ss, rfl, hs, he, hp, hl, hq⟩ := h
    have cyG : ∀ g : G, g.K = K → Cy (cxOf (L2.CX P w) P w K mg base N__law_nearby "_law_nearby" (defScope s__law_nearby) A.a__law_nearby cdv A0 outer s H E) g (fun cls d _ H => E cls d H) := fun g hg => ⟨hg.symm, takes_of rfl rfl rfl rfl, by have := hr.un; show (A0.deeper (PyProof.Rows.envOfC "_law_nearby" (defScope s__law_nearby) s.heap.objs.size A.a__law_nearby cdv)).units + 66 < cLine; omega, rfl, passes_of rfl⟩
    refine ⟨_, pss_ex (α := G) (p := fun g => g.K = K) (fun g hg => pss_cons (ps_if (dt_tru (cyG g hg) (de_isi (cyG g hg) (by rfl) T.m_isinstance (da_cons (de_var 0) (da_cons (de_ty (n := "str") (by rfl) T.m_str (by decide +kernel)) da_nil)))).pt pss_never pss_nil)
      (pss_cons (ps_if (dt_tru (cyG g hg) (de_isi (cyG g hg) (by rfl) T.m_isinstance (da_cons (de_var 0) (da_cons (de_ty (n := "list") (by rfl) T.m_list (by decide +kernel)) da_nil)))).pt
        (pss_cons (ps_expr (pe_bm PySem.F.plainAttrs_list PySem.F.slot_list_append PySem.F.type_list_append mt_append (pv 0) (pa_cons pe_str pa_nil)))
          (pss_ex (α := G) (p := fun g => g.K = K) (fun g hg => (dss_one (ds_ret (de_lst (da_cons (de_var 0) (da_cons (de_tupf (cyG g hg) (by rfl) T.m_tuple (de_var 0)) (da_cons (de_strf (cyG g hg) (by rfl) T.m_str (de_len (cyG g hg) (by rfl) T.m_len (de_var 0))) (da_cons (de_len (cyG g hg) (by rfl) T.m_len (de_var 0)) da_nil))))))).ps))) pss_nil)
        pss_never)), ?_⟩
    have rp : RepL K F (ss.map D.str) (ss.map V.str) := repL_strs.mpr rfl
    have ok0 : Ok ⟨K, st, F, H⟩ 0 F [some (.val (.lst (ss.map D.str)))] [some (.ref p)] H := ok_start (N := N__law_nearby) (rs := [.val (.lst (ss.map D.str))]) (vs := [.ref p]) hs he ⟨_, _, rfl, by simp only [Rep]; exact ⟨p, _, rfl, hp, rp⟩, rfl⟩ (Nat.le_refl 1)
    refine ⟨⟨K, st, F, H⟩, rfl, 0, F, _, Nat.le_refl _, ok0, ?_⟩
    simp -dsimp only [↓W_var, ↓W_var1, ↓W_var2, ↓W_var3, ↓W_c, ↓W_frz, ↓W_frz1, ↓W_frz2, ↓W_frz3, ↓W_frz4, ↓W_op, ↓W_call, ↓W_fn, ↓W_fn0, ↓W_fnK, ↓W_nil, ↓W_cons, ↓W_add1, ↓W_add2, ↓W_add3, ↓W_add4, ↓W_add5, ↓W_add6, ↓W_add7, ↓W_int, ↓W_int0, ↓W_mul1, ↓W_mul2, ↓W_eq1, ↓W_eq2, ↓W_eq3, ↓W_eq4, ↓W_ne1, ↓W_ne2, ↓W_ne3, ↓W_in1, ↓W_in2, ↓W_in3, ↓W_in4, ↓W_in5, ↓W_is1, ↓W_is2, ↓W_at, ↓W_atS, ↓W_ix1, ↓W_ix2, ↓W_ix3, ↓W_ix4, ↓W_sl, ↓W_on, ↓W_os, ↓W_part, ↓W_sl1, ↓W_sl2, ↓W_sl3, ↓W_sl4, ↓W_len1, ↓W_len2, ↓W_len3, ↓W_len4, ↓W_abs, ↓W_intf, ↓W_strf, ↓W_list1, ↓W_list2, ↓W_list3, ↓W_tup1, ↓W_tup2, ↓W_tup3, ↓W_max, ↓W_min, ↓W_allK, ↓W_all1, ↓W_isi1, ↓W_isi2, ↓W_k_ns, ↓W_k_bs, ↓W_k_is, ↓W_k_ss, ↓W_k_ts, ↓W_k_ls, ↓W_k_nb, ↓W_k_bb, ↓W_k_ib, ↓W_k_sb, ↓W_k_tb, ↓W_k_lb, ↓W_k_ni, ↓W_k_bi, ↓W_k_ii, ↓W_k_si, ↓W_k_ti, ↓W_k_li, ↓W_k_nt, ↓W_k_bt, ↓W_k_it, ↓W_k_st, ↓W_k_tt, ↓W_k_lt, ↓W_k_nl, ↓W_k_bl, ↓W_k_il, ↓W_k_sl, ↓W_k_tl, ↓W_k_ll, ↓W_valsK, ↓W_etup, ↓W_elst, ↓W_vals0, ↓W_vals1, ↓W_bool, ↓W_bool1, ↓W_tand, ↓W_tor, ↓W_tnot, ↓W_tru, ↓W_tru1, ↓W_tru2, ↓W_tru3, ↓W_tru4, ↓W_tru5, ↓W_tru6, ↓W_tru7, ↓W_bo, ↓W_eand, ↓W_eor, ↓W_enot, ↓W_ink, ↓W_eneg, ↓W_snil, ↓W_seq, ↓W_asg, ↓W_asg1, ↓W_asg2, ↓W_asg3, ↓W_ret, ↓W_hand1, ↓W_hand2, ↓W_hand3, ↓W_hand4, ↓W_expr, ↓W_if, ↓W_for, ↓W_any, ↓W_it1, ↓W_it2, ↓W_it3, ↓W_rg1, ↓W_lc, ↓W_bn, ↓W_yes, ↓W_ownK, ↓W_mut, ↓W_app, ↓W_ins, ↓W_setK, ↓W_stK, ↓W_setIx, ↓W_strK, ↓W_upper, ↓W_join1, ↓W_start, ↓W_slot1, ↓W_slot2, ↓W_arg1, ↓W_arg2, ↓W_sFrz, ↓W_strb, endsD, wipeE, List.foldr_cons, List.foldr_nil, List.length_cons, List.length_nil, List.map_cons, List.map_nil, List.cons_append, List.nil_append, List.append_nil, List.replicate, List.getElem?_cons_zero, List.getElem?_cons_succ, List.getElem?_nil, List.set_cons_zero, List.set_cons_succ, Nat.reduceAdd, Nat.reduceSub, Nat.zero_add, if_true, if_false, Bool.false_eq_true, Bool.not_true, Bool.not_false, true_and, and_true, List.forall_mem_cons, List.mem_cons, List.not_mem_nil, or_false, forall_eq_or_imp, forall_eq, false_and, and_false, implies_true, false_or, Option.map_some, Option.map_none, ite_self, Bool.and_true, Bool.true_and, Bool.and_false, Bool.false_and, List.forall_mem_nil, decide_true, decide_false, isNonD, signsD]
    intro F1 H1 w1 ok1
    rw [if_neg (by decide)]
    refine ⟨_, F1, _, Nat.le_refl _, ok1, ?_⟩
    simp -dsimp only [↓W_var, ↓W_var1, ↓W_var2, ↓W_var3, ↓W_c, ↓W_frz, ↓W_frz1, ↓W_frz2, ↓W_frz3, ↓W_frz4, ↓W_op, ↓W_call, ↓W_fn, ↓W_fn0, ↓W_fnK, ↓W_nil, ↓W_cons, ↓W_add1, ↓W_add2, ↓W_add3, ↓W_add4, ↓W_add5, ↓W_add6, ↓W_add7, ↓W_int, ↓W_int0, ↓W_mul1, ↓W_mul2, ↓W_eq1, ↓W_eq2, ↓W_eq3, ↓W_eq4, ↓W_ne1, ↓W_ne2, ↓W_ne3, ↓W_in1, ↓W_in2, ↓W_in3, ↓W_in4, ↓W_in5, ↓W_is1, ↓W_is2, ↓W_at, ↓W_atS, ↓W_ix1, ↓W_ix2, ↓W_ix3, ↓W_ix4, ↓W_sl, ↓W_on, ↓W_os, ↓W_part, ↓W_sl1, ↓W_sl2, ↓W_sl3, ↓W_sl4, ↓W_len1, ↓W_len2, ↓W_len3, ↓W_len4, ↓W_abs, ↓W_intf, ↓W_strf, ↓W_list1, ↓W_list2, ↓W_list3, ↓W_tup1, ↓W_tup2, ↓W_tup3, ↓W_max, ↓W_min, ↓W_allK, ↓W_all1, ↓W_isi1, ↓W_isi2, ↓W_k_ns, ↓W_k_bs, ↓W_k_is, ↓W_k_ss, ↓W_k_ts, ↓W_k_ls, ↓W_k_nb, ↓W_k_bb, ↓W_k_ib, ↓W_k_sb, ↓W_k_tb, ↓W_k_lb, ↓W_k_ni, ↓W_k_bi, ↓W_k_ii, ↓W_k_si, ↓W_k_ti, ↓W_k_li, ↓W_k_nt, ↓W_k_bt, ↓W_k_it, ↓W_k_st, ↓W_k_tt, ↓W_k_lt, ↓W_k_nl, ↓W_k_bl, ↓W_k_il, ↓W_k_sl, ↓W_k_tl, ↓W_k_ll, ↓W_valsK, ↓W_etup, ↓W_elst, ↓W_vals0, ↓W_vals1, ↓W_bool, ↓W_bool1, ↓W_tand, ↓W_tor, ↓W_tnot, ↓W_tru, ↓W_tru1, ↓W_tru2, ↓W_tru3, ↓W_tru4, ↓W_tru5, ↓W_tru6, ↓W_tru7, ↓W_bo, ↓W_eand, ↓W_eor, ↓W_enot, ↓W_ink, ↓W_eneg, ↓W_snil, ↓W_seq, ↓W_asg, ↓W_asg1, ↓W_asg2, ↓W_asg3, ↓W_ret, ↓W_hand1, ↓W_hand2, ↓W_hand3, ↓W_hand4, ↓W_expr, ↓W_if, ↓W_for, ↓W_any, ↓W_it1, ↓W_it2, ↓W_it3, ↓W_rg1, ↓W_lc, ↓W_bn, ↓W_yes, ↓W_ownK, ↓W_mut, ↓W_app, ↓W_ins, ↓W_setK, ↓W_stK, ↓W_setIx, ↓W_strK, ↓W_upper, ↓W_join1, ↓W_start, ↓W_slot1, ↓W_slot2, ↓W_arg1, ↓W_arg2, ↓W_sFrz, ↓W_strb, endsD, wipeE, List.foldr_cons, List.foldr_nil, List.length_cons, List.length_nil, List.map_cons, List.map_nil, List.cons_append, List.nil_append, List.append_nil, List.replicate, List.getElem?_cons_zero, List.getElem?_cons_succ, List.getElem?_nil, List.set_cons_zero, List.set_cons_succ, Nat.reduceAdd, Nat.reduceSub, Nat.zero_add, if_true, if_false, Bool.false_eq_true, Bool.not_true, Bool.not_false, true_and, and_true, List.forall_mem_cons, List.mem_cons, List.not_mem_nil, or_false, forall_eq_or_imp, forall_eq, false_and, and_false, implies_true, false_or, Option.map_some, Option.map_none, ite_self, Bool.and_true, Bool.true_and, Bool.and_false, Bool.false_and, List.forall_mem_nil, decide_true, decide_false, isNonD, signsD]
    intro F2 H2 w2 ok2
    rw [if_pos rfl]
    have w12 := w1.trans w2
    have hpF2 : F2 p = some (.lst (ss.map V.str)) := w12.ff _ _ hp
    have hp2 := ok2.fh _ _ hpF2
    refine ⟨.ref p, rfl, .inl ⟨rfl, _, .inl (.inl hp2)⟩, p, _, _, rfl, rfl, hp2, Nat.lt_of_le_of_lt (by rw [List.length_map]; exact hl) (by decide), ?_⟩
    have em : ss.map V.str ++ [V.str SB] = (ss ++ [SB]).map V.str := by rw [List.map_append]; rfl
    have em2 : ss.map V.str ++ [V.str (Str.ofString "b")] = (ss ++ [SB]).map V.str := em
    rw [em2]
    have stp : st ≠ p := fun z => by
      have := hs.free
      rw [z, hp] at this
      cases this
    obtain ⟨c, ns, i, r, sd, t, h1, ⟨o, h2⟩, h3⟩ := ok2.sto.at'
    have cp : c ≠ p := fun z => by
      rw [z, hpF2] at h2
      cases h2
    have s3 : StoreAt K st 0 (upd F2 p (.lst ((ss ++ [SB]).map V.str))) (upd H2 p (.lst ((ss ++ [SB]).map V.str))) := ⟨by rw [upd_ne stp]; exact ok2.sto.free, c, ns, i, r, sd, t, by rw [upd_ne stp]; exact h1, ⟨o, by rw [upd_ne cp]; exact h2⟩, h3⟩
    have e3 : Evl.Ex (upd F2 p (.lst ((ss ++ [SB]).map V.str))) (upd H2 p (.lst ((ss ++ [SB]).map V.str))) := fun b x q => by
      by_cases z : b = p
      · subst z
        rw [upd_same] at q ⊢
        exact q
      · rw [upd_ne z] at q ⊢
        exact ok2.fh b x q
    have ok3 : Ok ⟨K, st, upd F2 p (.lst ((ss ++ [SB]).map V.str)), upd H2 p (.lst ((ss ++ [SB]).map V.str))⟩ 0 (upd F2 p (.lst ((ss ++ [SB]).map V.str))) [some (.val (.lst ((ss ++ [SB]).map D.str)))] [some (.ref p)] (upd H2 p (.lst ((ss ++ [SB]).map V.str))) :=
      ok_start (N := N__law_nearby) (rs := [.val (.lst ((ss ++ [SB]).map D.str))]) (vs := [.ref p]) s3 e3 ⟨_, _, rfl, by simp only [Rep]; exact ⟨p, _, rfl, upd_same, repL_strs.mpr rfl⟩, rfl⟩ (Nat.le_refl 1)
    refine ⟨⟨K, st, upd F2 p (.lst ((ss ++ [SB]).map V.str)), upd H2 p (.lst ((ss ++ [SB]).map V.str))⟩, rfl, 0, _, _, Nat.le_refl _, ok3, ?_⟩
    simp -dsimp only [↓W_var, ↓W_var1, ↓W_var2, ↓W_var3, ↓W_c, ↓W_frz, ↓W_frz1, ↓W_frz2, ↓W_frz3, ↓W_frz4, ↓W_op, ↓W_call, ↓W_fn, ↓W_fn0, ↓W_fnK, ↓W_nil, ↓W_cons, ↓W_add1, ↓W_add2, ↓W_add3, ↓W_add4, ↓W_add5, ↓W_add6, ↓W_add7, ↓W_int, ↓W_int0, ↓W_mul1, ↓W_mul2, ↓W_eq1, ↓W_eq2, ↓W_eq3, ↓W_eq4, ↓W_ne1, ↓W_ne2, ↓W_ne3, ↓W_in1, ↓W_in2, ↓W_in3, ↓W_in4, ↓W_in5, ↓W_is1, ↓W_is2, ↓W_at, ↓W_atS, ↓W_ix1, ↓W_ix2, ↓W_ix3, ↓W_ix4, ↓W_sl, ↓W_on, ↓W_os, ↓W_part, ↓W_sl1, ↓W_sl2, ↓W_sl3, ↓W_sl4, ↓W_len1, ↓W_len2, ↓W_len3, ↓W_len4, ↓W_abs, ↓W_intf, ↓W_strf, ↓W_list1, ↓W_list2, ↓W_list3, ↓W_tup1, ↓W_tup2, ↓W_tup3, ↓W_max, ↓W_min, ↓W_allK, ↓W_all1, ↓W_isi1, ↓W_isi2, ↓W_k_ns, ↓W_k_bs, ↓W_k_is, ↓W_k_ss, ↓W_k_ts, ↓W_k_ls, ↓W_k_nb, ↓W_k_bb, ↓W_k_ib, ↓W_k_sb, ↓W_k_tb, ↓W_k_lb, ↓W_k_ni, ↓W_k_bi, ↓W_k_ii, ↓W_k_si, ↓W_k_ti, ↓W_k_li, ↓W_k_nt, ↓W_k_bt, ↓W_k_it, ↓W_k_st, ↓W_k_tt, ↓W_k_lt, ↓W_k_nl, ↓W_k_bl, ↓W_k_il, ↓W_k_sl, ↓W_k_tl, ↓W_k_ll, ↓W_valsK, ↓W_etup, ↓W_elst, ↓W_vals0, ↓W_vals1, ↓W_bool, ↓W_bool1, ↓W_tand, ↓W_tor, ↓W_tnot, ↓W_tru, ↓W_tru1, ↓W_tru2, ↓W_tru3, ↓W_tru4, ↓W_tru5, ↓W_tru6, ↓W_tru7, ↓W_bo, ↓W_eand, ↓W_eor, ↓W_enot, ↓W_ink, ↓W_eneg, ↓W_snil, ↓W_seq, ↓W_asg, ↓W_asg1, ↓W_asg2, ↓W_asg3, ↓W_ret, ↓W_hand1, ↓W_hand2, ↓W_hand3, ↓W_hand4, ↓W_expr, ↓W_if, ↓W_for, ↓W_any, ↓W_it1, ↓W_it2, ↓W_it3, ↓W_rg1, ↓W_lc, ↓W_bn, ↓W_yes, ↓W_ownK, ↓W_mut, ↓W_app, ↓W_ins, ↓W_setK, ↓W_stK, ↓W_setIx, ↓W_strK, ↓W_upper, ↓W_join1, ↓W_start, ↓W_slot1, ↓W_slot2, ↓W_arg1, ↓W_arg2, ↓W_sFrz, ↓W_strb, endsD, wipeE, List.foldr_cons, List.foldr_nil, List.length_cons, List.length_nil, List.map_cons, List.map_nil, List.cons_append, List.nil_append, List.append_nil, List.replicate, List.getElem?_cons_zero, List.getElem?_cons_succ, List.getElem?_nil, List.set_cons_zero, List.set_cons_succ, Nat.reduceAdd, Nat.reduceSub, Nat.zero_add, if_true, if_false, Bool.false_eq_true, Bool.not_true, Bool.not_false, true_and, and_true, List.forall_mem_cons, List.mem_cons, List.not_mem_nil, or_false, forall_eq_or_imp, forall_eq, false_and, and_false, implies_true, false_or, Option.map_some, Option.map_none, ite_self, Bool.and_true, Bool.true_and, Bool.and_false, Bool.false_and, List.forall_mem_nil, decide_true, decide_false, isNonD, signsD]
    rw [List.length_map]
    refine ⟨?_, lim_of (by decide), ?_⟩
    · refine Nat.lt_of_le_of_lt (Nat.log2_le_self _) ?_
      rw [Int.natAbs_natCast, List.length_append]
      show ss.length + 1 < 1920
      omega
    · intro F' H' v g4 s4 ⟨a, e1, _, _, _, us, e2, e3⟩
      subst e1
      exact hq F' H' a us (fun b x n q => g4.ff b x (show upd F2 p _ b = some x by rw [upd_ne n]; exact w12.ff b x q)) (g4.ff p _ upd_same) g4.fh s4.any e2 e3

end
end K00

namespace K00
open PySem PySem.Spec L2 DL
section
variable {P : Program} {w : World} {K : PySem.W.Frag} {mg : Str → Option Value} {base : Heap} {A : TxA}

theorem isn_of {d : D} {Q : RV → Prop} {E : Exc → Prop} (h : AskD d) (q : Q (.val (.bl (isNameD d)))) : app sp_is_name [.val d] Q E := ⟨d, rfl, h, q⟩
theorem due_of {d : D} {Q : RV → Prop} {E : Exc → Prop} (h : AskD d) (q : Q (.val (.bl (isNameD d)))) : app sp__law_due [.val d] Q E := ⟨d, rfl, h, q⟩
theorem deep_ask {n : Nat} {d : D} (h : DeepD n d) : AskD d := by
  cases n with
  | zero => exact h.elim
  | succ n =>
    cases d with
    | str s =>
      have q : s.length ≤ 900 := h
      show s.length ≤ 5000
      omega
    | obj _ _ _ => exact h.elim
    | ty _ => exact h.elim
    | cls _ => exact h.elim
    | _ => exact trivial
theorem map_all {α β : Type} (f : α → β) (ds : List α) : [] ++ (ds.filter fun _ => true).map f = ds.map f := by
  rw [List.nil_append, List.filter_eq_self.mpr (fun _ _ => rfl)]
theorem names_strs : ∀ {es : List D}, (∀ e ∈ es, isNameD e = true) → ∃ ss : List Str, es = ss.map D.str
  | [], _ => ⟨[], rfl⟩
  | d :: es, h => by
    obtain ⟨ss, rfl⟩ := names_strs fun e m => h e (List.mem_cons_of_mem _ m)
    have q := h d List.mem_cons_self
    cases d with
    | str s => exact ⟨s :: ss, rfl⟩
    | _ => exact absurd q (by simp [isNameD])
/-- an item while the law lengthens lists -/
def ItemV (n : Nat) (d : D) : Prop := match d with
  | .lst es => ∃ ss : List Str, es = ss.map D.str ∧ ss.length ≤ n
  | d => ItemA d
theorem itemV_of {d : D} (h : DeepD 2 d) (h2 : SeqN d) : ItemV 1000 d := by
  cases d with
  | lst es =>
    obtain ⟨ss, rfl⟩ := names_strs h2
    refine ⟨ss, rfl, ?_⟩
    have := h.1
    rwa [List.length_map] at this
  | tup es => exact h2
  | str s => exact h
  | non => exact trivial
  | bl b => exact trivial
  | int i => exact trivial
  | obj _ _ _ => exact h.elim
  | ty _ => exact h.elim
  | cls _ => exact h.elim
theorem ItemV.up {n : Nat} {d : D} (h : ItemV n d) : ItemV (n + 1) d := by
  cases d with
  | lst es =>
    obtain ⟨ss, h1, h2⟩ := h
    exact ⟨ss, h1, Nat.le_succ_of_le h2⟩
  | _ => exact h
theorem v_str_inj : ∀ {a b : List Str}, a.map V.str = b.map V.str → a = b
  | [], [], _ => rfl
  | [], _ :: _, h => by simp at h
  | _ :: _, [], h => by simp at h
  | x :: a, y :: b, h => by
    simp only [List.map_cons, List.cons.injEq, V.str.injEq] at h
    rw [h.1, v_str_inj h.2]
/-- the items stay items when one list is lengthened -/
theorem keepV {K : PySem.W.Frag} {F F' : Hp} {p : Addr} {ss : List Str} {n : Nat} {d : D} {v : V} (hF : ∀ b x, b ≠ p → F b = some x → F' b = some x) (hp : F p = some (.lst (ss.map V.str))) (hp' : F' p = some (.lst ((ss ++ [SB]).map V.str))) (r : Rep K F d v) (h : ItemV n d) : ∃ d', Rep K F' d' v ∧ ItemV (n + 1) d' := by
  cases d with
  | lst es =>
    obtain ⟨s0, rfl, hl⟩ := h
    simp only [Rep] at r
    obtain ⟨a, vs, rfl, ha, rl⟩ := r
    have e := repL_strs.mp rl
    subst e
    by_cases z : a = p
    · subst z
      rw [hp] at ha
      have e : ss = s0 := v_str_inj (by simpa using ha)
      subst e
      refine ⟨.lst ((ss ++ [SB]).map D.str), ?_, ss ++ [SB], rfl, by rw [List.length_append]; exact Nat.add_le_add_right hl 1⟩
      simp only [Rep]
      exact ⟨a, _, rfl, hp', repL_strs.mpr rfl⟩
    · refine ⟨.lst (s0.map D.str), ?_, s0, rfl, Nat.le_succ_of_le hl⟩
      simp only [Rep]
      exact ⟨a, _, rfl, hF a _ z ha, repL_strs.mpr rfl⟩
  | tup es =>
    obtain ⟨s0, rfl⟩ := names_strs h
    simp only [Rep] at r
    obtain ⟨a, vs, rfl, ha, rl⟩ := r
    have e := repL_strs.mp rl
    subst e
    refine ⟨.tup (s0.map D.str), ?_, h⟩
    simp only [Rep]
    refine ⟨a, _, rfl, ?_, repL_strs.mpr rfl⟩
    rcases ha with (ha | ⟨o, ha⟩) | ha
    · exact .inl (.inl (hF a _ (fun z => by rw [z, hp] at ha; cases ha) ha))
    · exact .inl (.inr ⟨o, hF a _ (fun z => by rw [z, hp] at ha; cases ha) ha⟩)
    · exact .inr ha
  | str s => exact ⟨.str s, by simpa only [Rep] using r, h⟩
  | non => exact ⟨.non, by simpa only [Rep] using r, h⟩
  | bl b => exact ⟨.bl b, by simpa only [Rep] using r, h⟩
  | int i => exact ⟨.int i, by simpa only [Rep] using r, h⟩
  | obj _ _ _ => exact h.elim
  | ty _ => exact h.elim
  | cls _ => exact h.elim
theorem keepL {K : PySem.W.Frag} {F F' : Hp} {p : Addr} {ss : List Str} {n : Nat} (hF : ∀ b x, b ≠ p → F b = some x → F' b = some x) (hp : F p = some (.lst (ss.map V.str))) (hp' : F' p = some (.lst ((ss ++ [SB]).map V.str))) : ∀ {ds : List D} {vs : List V}, RepL K F ds vs → (∀ d ∈ ds, ItemV n d) → ∃ ds', RepL K F' ds' vs ∧ ∀ d ∈ ds', ItemV (n + 1) d
  | [], vs, r, _ => ⟨[], by simpa only [RepL] using r, fun _ m => nomatch m⟩
  | d :: ds, vs, r, h => by
    simp only [RepL] at r
    obtain ⟨v, w, rfl, r1, r2⟩ := r
    obtain ⟨d', a1, a2⟩ := keepV hF hp hp' r1 (h d List.mem_cons_self)
    obtain ⟨ds', b1, b2⟩ := keepL hF hp hp' r2 fun e m => h e (List.mem_cons_of_mem _ m)
    refine ⟨d' :: ds', ?_, fun e m => ?_⟩
    · simp only [RepL]
      exact ⟨v, w, rfl, a1, b1⟩
    · rcases List.mem_cons.mp m with rfl | m
      · exact a2
      · exact b2 e m
/-- what the last loop keeps -/
structure TailI (K : PySem.W.Frag) (st I : Addr) (ivs : List V) (i : Nat) (H : Hp) : Prop where
  sto : StoreAt K st 0 (but st H) H
  it : but st H I = some (.lst ivs)
  rep : ∃ ds, RepL K (but st H) ds ivs ∧ ∀ d ∈ ds, ItemV (1000 + i) d
theorem TailI.at' {K : PySem.W.Frag} {st I : Addr} {ivs : List V} {i j : Nat} {H : Hp} {x : V} (h : TailI K st I ivs i H) (hx : ivs[j]? = some x) : ∃ d, ItemV (1000 + i) d ∧ Rep K (but st H) d x := by
  obtain ⟨ds, r, hd⟩ := h.rep
  have hl := r.length
  have hj : j < ds.length := by
    have := (List.getElem?_eq_some_iff.mp hx).1
    omega
  obtain ⟨v, h1, h2⟩ := r.get (List.getElem?_eq_getElem hj)
  rw [hx] at h1
  cases h1
  exact ⟨_, hd _ (List.getElem_mem hj), h2⟩
theorem near_run {K : PySem.W.Frag} {st I : Addr} {ivs : List V} {i : Nat} {H : Hp} {x : V} {d : D} {Qc : VK} {E' : XK} (q : TailI K st I ivs i H) (hx : ivs[i]? = some x) (hd : ItemV (1000 + i) d) (rd : Rep K (but st H) d x) (hi : 1000 + i ≤ 1500)
    (hc : ∀ (F' H' : Hp) (qa : Addr) (us : List V) (es : List D), Evl.Ex F' H' → StoreAt K st 0 F' H' → qa ≠ st → H' qa = some (.lst us) → RepL K F' es us → (∀ e ∈ es, AskD e) → F' I = some (.lst ivs) → (∃ ds, RepL K F' ds ivs ∧ ∀ d ∈ ds, ItemV (1000 + (i + 1)) d) → Qc (.ref qa) H') :
    spD K 1 sp__law_nearby [x] H Qc E' ∨ spNearB K [x] H Qc E' := by
  have caseA : ItemA d → spD K 1 sp__law_nearby [x] H Qc E' := fun ha => by
    refine ⟨st, but st H, [.val d], rfl, q.sto, but_ex, ⟨x, [], rfl, rd, rfl⟩, d, rfl, ha, fun es hes F' H' v' w s r => ?_⟩
    obtain ⟨a, rfl, n1, n2, n3, us, n4, n5⟩ := r
    obtain ⟨ds, r1, r2⟩ := q.rep
    exact hc F' H' a us es w.fh s.any n1 n4 n5 hes (w.ff _ _ q.it) ⟨ds, r1.mono w.ff, fun e m => (r2 e m).up⟩
  cases d with
  | lst es =>
    obtain ⟨ss, rfl, hl⟩ := hd
    simp only [Rep] at rd
    obtain ⟨p, vs, rfl, hp, rl⟩ := rd
    have e := repL_strs.mp rl
    subst e
    refine .inr ⟨st, but st H, p, ss, rfl, q.sto, but_ex, hp, by omega, fun F' H' qa us hF hp' e s hq ru => ?_⟩
    obtain ⟨ds, r1, r2⟩ := q.rep
    have hIp : I ≠ p := fun z => by
      have h1 := q.it
      rw [z, hp] at h1
      have e : ss.map V.str = ivs := by simpa using h1
      rw [← e, List.getElem?_map] at hx
      obtain ⟨z, _, h2⟩ := Option.map_eq_some_iff.mp hx
      cases h2
    refine hc F' H' qa us _ e s (fun z => ?_) hq ru (fun e me => ?_) (hF I _ hIp q.it) (keepL hF hp hp' r1 r2)
    · obtain ⟨c, ns, a, b, sd, t, h1, _⟩ := s.at'
      rw [z, h1] at hq
      have e : us = _ := (by simpa using hq.symm)
      have hl2 := ru.length
      rw [e] at hl2
      simp at hl2
    · simp only [List.mem_cons, List.not_mem_nil, or_false] at me
      rcases me with rfl | rfl | rfl | rfl
      · exact trivial
      · exact trivial
      · show (Str.ofString _).length ≤ 5000
        have := PyProof.Rows.len_str_of_int (((ss ++ [SB]).length : Nat) : Int)
        rw [Int.natAbs_natCast, List.length_append] at this
        have h1 : ([SB] : List Str).length = 1 := rfl
        rw [List.length_append]
        omega
      · exact trivial
  | tup es => exact .inl (caseA hd)
  | str s => exact .inl (caseA hd)
  | non => exact .inl (caseA hd)
  | bl b => exact .inl (caseA hd)
  | int i => exact .inl (caseA hd)
  | obj _ _ _ => exact hd.elim
  | ty _ => exact hd.elim
  | cls _ => exact hd.elim
def spLaw (K : PySem.W.Frag) : Sp := fun vs H Q _ => ∃ (a : Addr) (ns : List Int), vs = [.ref a] ∧ SqL K H a (ns.map V.int) ∧ ns.length ≤ 63 ∧ ∀ H', Q (.bl true) H'
theorem ok_law (T : Tx K mg A) : FnOk P w K mg base (L2.CX P w) 7 A.a_law A.f_law ["script"] (spLaw K) := by
  have NB := fn_or (ok__law_nearby (P := P) (w := w) (base := base) T) (okB__law_nearby T)
  have ST := ok__law_store (P := P) (w := w) (base := base) T
  refine T.F_law.okX sc_law (fun vs H Q E h => ?_) (fun cdv A0 outer s H vs Q E hr h => ?_)
  · obtain ⟨a, ns, rfl, _⟩ := h
    rfl
  · obtain ⟨a, ns, rfl, hS, hl, hq⟩ := h
    have tk : Takes (cxOf (L2.CX P w) P w K mg base N_law "law" (defScope s_law) A.a_law cdv A0 outer s H E) (fun cls d _ H => E cls d H) := takes_of rfl rfl rfl rfl
    have cyG : ∀ g : G, g.K = K → Cy (cxOf (L2.CX P w) P w K mg base N_law "law" (defScope s_law) A.a_law cdv A0 outer s H E) g (fun cls d _ H => E cls d H) := fun g hg => ⟨hg.symm, takes_of rfl rfl rfl rfl, by have := hr.un; show (A0.deeper (PyProof.Rows.envOfC "law" (defScope s_law) s.heap.objs.size A.a_law cdv)).units + 66 < cLine; omega, rfl, passes_of rfl⟩
    refine ⟨_, pss_cons (ps_set (i := 1) sc_law.nd rfl (by first | exact Or.inl rfl | exact Or.inr rfl) (pe_callS ST (hr.mono (by decide)) (by rfl) T.m__law_store T.F__law_store.kp T.b__law_store (fun σ => passAt tk σ) (pa_cons (pv 0) pa_nil)))
      (pss_frz (pss_ex (α := G) (p := fun g => g.K = K) (fun g hg => have cy := cyG g hg; (dp_cons (ds_asg 2 (de_tup (da_cons (de_gint (by rfl) T.m_MOST_SIGNS) (da_cons (de_gint (by rfl) T.m_MOST_NAMES) (da_cons (de_gint (by rfl) T.m_MOST_LISTS) (da_cons (de_gint (by rfl) T.m_PARTED_NAMES) (da_cons (de_gint (by rfl) T.m_GROWN_NAMES) (da_cons (de_gint (by rfl) T.m_MOST_TREES) (da_cons (de_gint (by rfl) T.m_MOST_TEXT) (da_cons (de_gint (by rfl) T.m_MOST_PAPER) da_nil))))))))) sc_law.nd)
    (dp_cons (ds_if (DW.dt (dw_or (dt_not (dt_tru cy (de_call cy (ok__law_same T 3) (mono__law_same 3) (hr.mono (by decide)) (by rfl) T.m__law_same T.F__law_same.kp T.b__law_same (da_cons (de_var 2) (da_cons (de_tup (da_cons de_int (da_cons de_int (da_cons de_int (da_cons de_int (da_cons de_int (da_cons de_int (da_cons de_int (da_cons de_int da_nil))))))))) da_nil))))) (dw_or1 (dt_not (dt_tru cy (de_call cy (ok__law_same T 3) (mono__law_same 3) (hr.mono (by decide)) (by rfl) T.m__law_same T.F__law_same.kp T.b__law_same (da_cons (de_gint (by rfl) T.m_MOST_LINES) (da_cons de_int da_nil)))))))) (dss_one (ds_ret de_bl)) dss_nil)
    (dp_cons (ds_asgLc 3 cy (own := [("k", 6)]) sc_law.nd (di_range1 (by rfl) T.m_range (da_cons de_int da_nil)) (blkOk_by (own := [("k", 6)]) (N := N_law) (sc := defScope s_law) (by decide +kernel)) (fun _ _ _ _ _ cy => (dg_name 6 sc_law.nd)) (fun _ _ _ _ _ cy => dts_nil) (fun _ _ _ _ _ cy => (de_call cy (ok__law_item T) mono__law_item (hr.mono (by decide)) (by rfl) T.m__law_item T.F__law_item.kp T.b__law_item (da_cons (de_var 1) da_nil))))
    (dp_frz 3 (dp_cons (ds_asgLc 4 cy (own := [("item", 8)]) sc_law.nd (di_any cy (de_var 3)) (blkOk_by (own := [("item", 8)]) (N := N_law) (sc := defScope s_law) (by decide +kernel)) (fun _ _ _ _ _ cy => (dg_name 8 sc_law.nd)) (fun _ _ _ _ _ cy => dts_nil) (fun _ _ _ _ _ cy => (de_call cy (ok__law_copied T 2) (mono__law_copied 2) (hr.mono (by decide)) (by rfl) T.m__law_copied T.F__law_copied.kp T.b__law_copied (da_cons (de_var 8) da_nil))))
    (dp_frz 4 (dp_cons (ds_asgLc 5 cy (own := [("item", 8)]) sc_law.nd (di_any cy (de_var 3)) (blkOk_by (own := [("item", 8)]) (N := N_law) (sc := defScope s_law) (by decide +kernel)) (fun _ _ _ _ _ cy => (dg_name 8 sc_law.nd)) (fun _ _ _ _ _ cy => dts_nil) (fun _ _ _ _ _ cy => (de_call cy (ok_is_name T) mono_is_name (hr.mono (by decide)) (by rfl) T.m_is_name T.F_is_name.kp T.b_is_name (da_cons (de_var 8) da_nil))))
    (dp_frz 5 (dp_cons (ds_for cy (di_range1 (by rfl) T.m_range (da_cons de_int da_nil)) (dg_name 6 sc_law.nd) (dss_cons (ds_asg 7 (de_call cy (ok__law_due T) mono__law_due (hr.mono (by decide)) (by rfl) T.m__law_due T.F__law_due.kp T.b__law_due (da_cons (de_item cy (de_var 4) (de_var 6)) da_nil)) sc_law.nd)
    (dss_one (ds_if (DW.dt (dw_or (dt_not (dt_tru cy (de_call cy (ok__law_same T 3) (mono__law_same 3) (hr.mono (by decide)) (by rfl) T.m__law_same T.F__law_same.kp T.b__law_same (da_cons (de_item cy (de_var 5) (de_var 6)) (da_cons (de_var 7) da_nil))))) (dw_or1 (dt_not (dt_tru cy (de_call cy (ok__law_same T 3) (mono__law_same 3) (hr.mono (by decide)) (by rfl) T.m__law_same T.F__law_same.kp T.b__law_same (da_cons (de_callK cy (ok_is_name T) mono_is_name (hr.mono (by decide)) (by rfl) T.m_is_name T.F_is_name.kp T.kb_is_name (dk_cons (de_item cy (de_var 3) (de_var 6)) dk_nil)) (da_cons (de_var 7) da_nil)))))))) (dss_one (ds_ret de_bl)) dss_nil))))
    (dp_one (ds_if (dt_not (dt_tru cy (de_call cy (ok__law_same T 3) (mono__law_same 3) (hr.mono (by decide)) (by rfl) T.m__law_same T.F__law_same.kp T.b__law_same (da_cons (de_var 3) (da_cons (de_var 4) da_nil))))) (dss_one (ds_ret de_bl)) dss_nil)
    (pss_cons (ps_for (passes_of rfl) rfl (pi_list (pv 3)) (pg_name (i := 8) sc_law.nd rfl (.inl rfl)) (pss_one (ps_for (passes_of rfl) rfl (pi_list (pe_callS NB (hr.mono (by decide)) (by rfl) T.m__law_nearby T.F__law_nearby.kp T.b__law_nearby (fun σ => passAt tk σ) (pa_cons (pv 8) pa_nil))) (pg_name (i := 9) sc_law.nd rfl (.inl rfl)) (pss_ex (α := G) (p := fun g => g.K = K) (fun g hg => have cy := cyG g hg; (dss_one (ds_if (dt_not (dt_tru cy (de_call cy (ok__law_same T 3) (mono__law_same 3) (hr.mono (by decide)) (by rfl) T.m__law_same T.F__law_same.kp T.b__law_same (da_cons (de_call cy (ok_is_name T) mono_is_name (hr.mono (by decide)) (by rfl) T.m_is_name T.F_is_name.kp T.b_is_name (da_cons (de_var 9) da_nil)) (da_cons (de_call cy (ok__law_due T) mono__law_due (hr.mono (by decide)) (by rfl) T.m__law_due T.F__law_due.kp T.b__law_due (da_cons (de_var 9) da_nil)) da_nil))))) (dss_one (ds_ret de_bl)) dss_nil)).ps))))) (pss_one (ps_ret pe_bl))))))))))))).ps))), ?_⟩
    refine ⟨_, rfl, a, ns, rfl, hS, hl, fun H1 st c sd e1 n1 n2 ncs x1 x2 s0 s1 => ?_⟩
    refine ⟨c, _, x2, fun o => ?_⟩
    have y1 : upd H1 c (.frz o (.lst (ns.map V.int))) st = some (.lst [.ref c, .int 0, .int 0, .int sd, .int 0]) := by rw [upd_ne ncs.symm]; exact x1
    generalize hH2 : upd H1 c (.frz o (.lst (ns.map V.int))) = H2 at y1 ⊢
    have y2 : H2 c = some (.frz o (.lst (ns.map V.int))) := by rw [← hH2, upd_same]
    have sA : StoreAt K st 0 (but st H2) H2 := ⟨but_st, c, ns, 0, 0, sd, 0, y1, ⟨o, by rw [but_ne ncs]; exact y2⟩, hl, Int.le_refl _, Int.le_refl _, s0, s1, Int.le_refl _⟩
    have ok0 : Ok ⟨K, st, but st H2, H2⟩ 0 (but st H2) [none, some .sto, none, none, none, none, none, none, none, none] [some (.ref a), some (.ref st), none, none, none, none, none, none, none, none] H2 := by
      have g0 : ∀ {i : Nat} {z : SV}, ([none, some .sto, none, none, none, none, none, none, none, none] : En)[i]? = some (some z) → i = 1 ∧ z = .sto := by
        intro i z q
        match i, q with
        | 1, q => exact ⟨rfl, by simpa using q.symm⟩
        | 0, q | 2, q | 3, q | 4, q | 5, q | 6, q | 7, q | 8, q | 9, q => simp at q
        | n + 10, q => simp at q
      refine ⟨Grow.refl but_ex but_st, sA, rfl, fun i d q => ?_, fun i q => ?_, fun i xs q => ?_, fun i j xs ys _ q => ?_⟩
      · exact nomatch (g0 q).2
      · obtain ⟨rfl, _⟩ := g0 q
        rfl
      · exact nomatch (g0 q).2
      · exact nomatch (g0 q).2
    refine ⟨⟨K, st, but st H2, H2⟩, rfl, 0, but st H2, _, Nat.le_refl _, ok0, ?_⟩
    generalize hA : enS _ _ _ _ _ = AA
    simp -dsimp only [↓W_var, ↓W_var1, ↓W_var2, ↓W_var3, ↓W_c, ↓W_frz, ↓W_frz1, ↓W_frz2, ↓W_frz3, ↓W_frz4, ↓W_op, ↓W_call, ↓W_fn, ↓W_fn0, ↓W_fnK, ↓W_nil, ↓W_cons, ↓W_add1, ↓W_add2, ↓W_add3, ↓W_add4, ↓W_add5, ↓W_add6, ↓W_add7, ↓W_int, ↓W_int0, ↓W_mul1, ↓W_mul2, ↓W_eq1, ↓W_eq2, ↓W_eq3, ↓W_eq4, ↓W_ne1, ↓W_ne2, ↓W_ne3, ↓W_in1, ↓W_in2, ↓W_in3, ↓W_in4, ↓W_in5, ↓W_is1, ↓W_is2, ↓W_at, ↓W_atS, ↓W_ix1, ↓W_ix2, ↓W_ix3, ↓W_ix4, ↓W_sl, ↓W_on, ↓W_os, ↓W_part, ↓W_sl1, ↓W_sl2, ↓W_sl3, ↓W_sl4, ↓W_len1, ↓W_len2, ↓W_len3, ↓W_len4, ↓W_abs, ↓W_intf, ↓W_strf, ↓W_list1, ↓W_list2, ↓W_list3, ↓W_tup1, ↓W_tup2, ↓W_tup3, ↓W_max, ↓W_min, ↓W_allK, ↓W_all1, ↓W_isi1, ↓W_isi2, ↓W_k_ns, ↓W_k_bs, ↓W_k_is, ↓W_k_ss, ↓W_k_ts, ↓W_k_ls, ↓W_k_nb, ↓W_k_bb, ↓W_k_ib, ↓W_k_sb, ↓W_k_tb, ↓W_k_lb, ↓W_k_ni, ↓W_k_bi, ↓W_k_ii, ↓W_k_si, ↓W_k_ti, ↓W_k_li, ↓W_k_nt, ↓W_k_bt, ↓W_k_it, ↓W_k_st, ↓W_k_tt, ↓W_k_lt, ↓W_k_nl, ↓W_k_bl, ↓W_k_il, ↓W_k_sl, ↓W_k_tl, ↓W_k_ll, ↓W_valsK, ↓W_etup, ↓W_elst, ↓W_vals0, ↓W_vals1, ↓W_bool, ↓W_bool1, ↓W_tand, ↓W_tor, ↓W_tnot, ↓W_tru, ↓W_tru1, ↓W_tru2, ↓W_tru3, ↓W_tru4, ↓W_tru5, ↓W_tru6, ↓W_tru7, ↓W_bo, ↓W_eand, ↓W_eor, ↓W_enot, ↓W_ink, ↓W_eneg, ↓W_snil, ↓W_seq, ↓W_asg, ↓W_asg1, ↓W_asg2, ↓W_asg3, ↓W_ret, ↓W_hand1, ↓W_hand2, ↓W_hand3, ↓W_hand4, ↓W_expr, ↓W_if, ↓W_for, ↓W_any, ↓W_it1, ↓W_it2, ↓W_it3, ↓W_rg1, ↓W_lc, ↓W_bn, ↓W_yes, ↓W_ownK, ↓W_mut, ↓W_app, ↓W_ins, ↓W_setK, ↓W_stK, ↓W_setIx, ↓W_strK, ↓W_upper, ↓W_join1, ↓W_start, ↓W_slot1, ↓W_slot2, ↓W_arg1, ↓W_arg2, ↓W_sFrz, ↓W_strb, endsD, wipeE, List.foldr_cons, List.foldr_nil, List.length_cons, List.length_nil, List.map_cons, List.map_nil, List.cons_append, List.nil_append, List.append_nil, List.replicate, List.getElem?_cons_zero, List.getElem?_cons_succ, List.getElem?_nil, List.set_cons_zero, List.set_cons_succ, Nat.reduceAdd, Nat.reduceSub, Nat.zero_add, if_true, if_false, Bool.false_eq_true, Bool.not_true, Bool.not_false, true_and, and_true, List.forall_mem_cons, List.mem_cons, List.not_mem_nil, or_false, forall_eq_or_imp, forall_eq, false_and, and_false, implies_true, false_or, Option.map_some, Option.map_none, ite_self, Bool.and_true, Bool.true_and, Bool.and_false, Bool.false_and, List.forall_mem_nil, decide_true, decide_false, isNonD, signsD]
    refine ⟨lim_of (by decide), lim_of (by decide), same_of ⟨by decide, fun e me => ?_⟩ rfl ?_⟩
    · simp only [List.mem_cons, List.not_mem_nil, or_false] at me
      rcases me with rfl | rfl | rfl | rfl | rfl | rfl | rfl | rfl <;> exact trivial
    simp -dsimp only [↓W_var, ↓W_var1, ↓W_var2, ↓W_var3, ↓W_c, ↓W_frz, ↓W_frz1, ↓W_frz2, ↓W_frz3, ↓W_frz4, ↓W_op, ↓W_call, ↓W_fn, ↓W_fn0, ↓W_fnK, ↓W_nil, ↓W_cons, ↓W_add1, ↓W_add2, ↓W_add3, ↓W_add4, ↓W_add5, ↓W_add6, ↓W_add7, ↓W_int, ↓W_int0, ↓W_mul1, ↓W_mul2, ↓W_eq1, ↓W_eq2, ↓W_eq3, ↓W_eq4, ↓W_ne1, ↓W_ne2, ↓W_ne3, ↓W_in1, ↓W_in2, ↓W_in3, ↓W_in4, ↓W_in5, ↓W_is1, ↓W_is2, ↓W_at, ↓W_atS, ↓W_ix1, ↓W_ix2, ↓W_ix3, ↓W_ix4, ↓W_sl, ↓W_on, ↓W_os, ↓W_part, ↓W_sl1, ↓W_sl2, ↓W_sl3, ↓W_sl4, ↓W_len1, ↓W_len2, ↓W_len3, ↓W_len4, ↓W_abs, ↓W_intf, ↓W_strf, ↓W_list1, ↓W_list2, ↓W_list3, ↓W_tup1, ↓W_tup2, ↓W_tup3, ↓W_max, ↓W_min, ↓W_allK, ↓W_all1, ↓W_isi1, ↓W_isi2, ↓W_k_ns, ↓W_k_bs, ↓W_k_is, ↓W_k_ss, ↓W_k_ts, ↓W_k_ls, ↓W_k_nb, ↓W_k_bb, ↓W_k_ib, ↓W_k_sb, ↓W_k_tb, ↓W_k_lb, ↓W_k_ni, ↓W_k_bi, ↓W_k_ii, ↓W_k_si, ↓W_k_ti, ↓W_k_li, ↓W_k_nt, ↓W_k_bt, ↓W_k_it, ↓W_k_st, ↓W_k_tt, ↓W_k_lt, ↓W_k_nl, ↓W_k_bl, ↓W_k_il, ↓W_k_sl, ↓W_k_tl, ↓W_k_ll, ↓W_valsK, ↓W_etup, ↓W_elst, ↓W_vals0, ↓W_vals1, ↓W_bool, ↓W_bool1, ↓W_tand, ↓W_tor, ↓W_tnot, ↓W_tru, ↓W_tru1, ↓W_tru2, ↓W_tru3, ↓W_tru4, ↓W_tru5, ↓W_tru6, ↓W_tru7, ↓W_bo, ↓W_eand, ↓W_eor, ↓W_enot, ↓W_ink, ↓W_eneg, ↓W_snil, ↓W_seq, ↓W_asg, ↓W_asg1, ↓W_asg2, ↓W_asg3, ↓W_ret, ↓W_hand1, ↓W_hand2, ↓W_hand3, ↓W_hand4, ↓W_expr, ↓W_if, ↓W_for, ↓W_any, ↓W_it1, ↓W_it2, ↓W_it3, ↓W_rg1, ↓W_lc, ↓W_bn, ↓W_yes, ↓W_ownK, ↓W_mut, ↓W_app, ↓W_ins, ↓W_setK, ↓W_stK, ↓W_setIx, ↓W_strK, ↓W_upper, ↓W_join1, ↓W_start, ↓W_slot1, ↓W_slot2, ↓W_arg1, ↓W_arg2, ↓W_sFrz, ↓W_strb, endsD, wipeE, List.foldr_cons, List.foldr_nil, List.length_cons, List.length_nil, List.map_cons, List.map_nil, List.cons_append, List.nil_append, List.append_nil, List.replicate, List.getElem?_cons_zero, List.getElem?_cons_succ, List.getElem?_nil, List.set_cons_zero, List.set_cons_succ, Nat.reduceAdd, Nat.reduceSub, Nat.zero_add, if_true, if_false, Bool.false_eq_true, Bool.not_true, Bool.not_false, true_and, and_true, List.forall_mem_cons, List.mem_cons, List.not_mem_nil, or_false, forall_eq_or_imp, forall_eq, false_and, and_false, implies_true, false_or, Option.map_some, Option.map_none, ite_self, Bool.and_true, Bool.true_and, Bool.and_false, Bool.false_and, List.forall_mem_nil, decide_true, decide_false, isNonD, signsD]
    refine same_of trivial rfl ?_
    simp -dsimp only [↓W_var, ↓W_var1, ↓W_var2, ↓W_var3, ↓W_c, ↓W_frz, ↓W_frz1, ↓W_frz2, ↓W_frz3, ↓W_frz4, ↓W_op, ↓W_call, ↓W_fn, ↓W_fn0, ↓W_fnK, ↓W_nil, ↓W_cons, ↓W_add1, ↓W_add2, ↓W_add3, ↓W_add4, ↓W_add5, ↓W_add6, ↓W_add7, ↓W_int, ↓W_int0, ↓W_mul1, ↓W_mul2, ↓W_eq1, ↓W_eq2, ↓W_eq3, ↓W_eq4, ↓W_ne1, ↓W_ne2, ↓W_ne3, ↓W_in1, ↓W_in2, ↓W_in3, ↓W_in4, ↓W_in5, ↓W_is1, ↓W_is2, ↓W_at, ↓W_atS, ↓W_ix1, ↓W_ix2, ↓W_ix3, ↓W_ix4, ↓W_sl, ↓W_on, ↓W_os, ↓W_part, ↓W_sl1, ↓W_sl2, ↓W_sl3, ↓W_sl4, ↓W_len1, ↓W_len2, ↓W_len3, ↓W_len4, ↓W_abs, ↓W_intf, ↓W_strf, ↓W_list1, ↓W_list2, ↓W_list3, ↓W_tup1, ↓W_tup2, ↓W_tup3, ↓W_max, ↓W_min, ↓W_allK, ↓W_all1, ↓W_isi1, ↓W_isi2, ↓W_k_ns, ↓W_k_bs, ↓W_k_is, ↓W_k_ss, ↓W_k_ts, ↓W_k_ls, ↓W_k_nb, ↓W_k_bb, ↓W_k_ib, ↓W_k_sb, ↓W_k_tb, ↓W_k_lb, ↓W_k_ni, ↓W_k_bi, ↓W_k_ii, ↓W_k_si, ↓W_k_ti, ↓W_k_li, ↓W_k_nt, ↓W_k_bt, ↓W_k_it, ↓W_k_st, ↓W_k_tt, ↓W_k_lt, ↓W_k_nl, ↓W_k_bl, ↓W_k_il, ↓W_k_sl, ↓W_k_tl, ↓W_k_ll, ↓W_valsK, ↓W_etup, ↓W_elst, ↓W_vals0, ↓W_vals1, ↓W_bool, ↓W_bool1, ↓W_tand, ↓W_tor, ↓W_tnot, ↓W_tru, ↓W_tru1, ↓W_tru2, ↓W_tru3, ↓W_tru4, ↓W_tru5, ↓W_tru6, ↓W_tru7, ↓W_bo, ↓W_eand, ↓W_eor, ↓W_enot, ↓W_ink, ↓W_eneg, ↓W_snil, ↓W_seq, ↓W_asg, ↓W_asg1, ↓W_asg2, ↓W_asg3, ↓W_ret, ↓W_hand1, ↓W_hand2, ↓W_hand3, ↓W_hand4, ↓W_expr, ↓W_if, ↓W_for, ↓W_any, ↓W_it1, ↓W_it2, ↓W_it3, ↓W_rg1, ↓W_lc, ↓W_bn, ↓W_yes, ↓W_ownK, ↓W_mut, ↓W_app, ↓W_ins, ↓W_setK, ↓W_stK, ↓W_setIx, ↓W_strK, ↓W_upper, ↓W_join1, ↓W_start, ↓W_slot1, ↓W_slot2, ↓W_arg1, ↓W_arg2, ↓W_sFrz, ↓W_strb, endsD, wipeE, List.foldr_cons, List.foldr_nil, List.length_cons, List.length_nil, List.map_cons, List.map_nil, List.cons_append, List.nil_append, List.append_nil, List.replicate, List.getElem?_cons_zero, List.getElem?_cons_succ, List.getElem?_nil, List.set_cons_zero, List.set_cons_succ, Nat.reduceAdd, Nat.reduceSub, Nat.zero_add, if_true, if_false, Bool.false_eq_true, Bool.not_true, Bool.not_false, true_and, and_true, List.forall_mem_cons, List.mem_cons, List.not_mem_nil, or_false, forall_eq_or_imp, forall_eq, false_and, and_false, implies_true, false_or, Option.map_some, Option.map_none, ite_self, Bool.and_true, Bool.true_and, Bool.and_false, Bool.false_and, List.forall_mem_nil, decide_true, decide_false, isNonD, signsD]
    refine ⟨by decide, by decide, nn_of (by rw [range_len]; decide), ?_⟩
    refine lcW_draw (fun _ e => DeepD 2 e ∧ SeqN e) _ _ (fun d _ Y N hY => ?_) (fun items hl0 he => ?_)
    · simp -dsimp only [↓W_var, ↓W_var1, ↓W_var2, ↓W_var3, ↓W_c, ↓W_frz, ↓W_frz1, ↓W_frz2, ↓W_frz3, ↓W_frz4, ↓W_op, ↓W_call, ↓W_fn, ↓W_fn0, ↓W_fnK, ↓W_nil, ↓W_cons, ↓W_add1, ↓W_add2, ↓W_add3, ↓W_add4, ↓W_add5, ↓W_add6, ↓W_add7, ↓W_int, ↓W_int0, ↓W_mul1, ↓W_mul2, ↓W_eq1, ↓W_eq2, ↓W_eq3, ↓W_eq4, ↓W_ne1, ↓W_ne2, ↓W_ne3, ↓W_in1, ↓W_in2, ↓W_in3, ↓W_in4, ↓W_in5, ↓W_is1, ↓W_is2, ↓W_at, ↓W_atS, ↓W_ix1, ↓W_ix2, ↓W_ix3, ↓W_ix4, ↓W_sl, ↓W_on, ↓W_os, ↓W_part, ↓W_sl1, ↓W_sl2, ↓W_sl3, ↓W_sl4, ↓W_len1, ↓W_len2, ↓W_len3, ↓W_len4, ↓W_abs, ↓W_intf, ↓W_strf, ↓W_list1, ↓W_list2, ↓W_list3, ↓W_tup1, ↓W_tup2, ↓W_tup3, ↓W_max, ↓W_min, ↓W_allK, ↓W_all1, ↓W_isi1, ↓W_isi2, ↓W_k_ns, ↓W_k_bs, ↓W_k_is, ↓W_k_ss, ↓W_k_ts, ↓W_k_ls, ↓W_k_nb, ↓W_k_bb, ↓W_k_ib, ↓W_k_sb, ↓W_k_tb, ↓W_k_lb, ↓W_k_ni, ↓W_k_bi, ↓W_k_ii, ↓W_k_si, ↓W_k_ti, ↓W_k_li, ↓W_k_nt, ↓W_k_bt, ↓W_k_it, ↓W_k_st, ↓W_k_tt, ↓W_k_lt, ↓W_k_nl, ↓W_k_bl, ↓W_k_il, ↓W_k_sl, ↓W_k_tl, ↓W_k_ll, ↓W_valsK, ↓W_etup, ↓W_elst, ↓W_vals0, ↓W_vals1, ↓W_bool, ↓W_bool1, ↓W_tand, ↓W_tor, ↓W_tnot, ↓W_tru, ↓W_tru1, ↓W_tru2, ↓W_tru3, ↓W_tru4, ↓W_tru5, ↓W_tru6, ↓W_tru7, ↓W_bo, ↓W_eand, ↓W_eor, ↓W_enot, ↓W_ink, ↓W_eneg, ↓W_snil, ↓W_seq, ↓W_asg, ↓W_asg1, ↓W_asg2, ↓W_asg3, ↓W_ret, ↓W_hand1, ↓W_hand2, ↓W_hand3, ↓W_hand4, ↓W_expr, ↓W_if, ↓W_for, ↓W_any, ↓W_it1, ↓W_it2, ↓W_it3, ↓W_rg1, ↓W_lc, ↓W_bn, ↓W_yes, ↓W_ownK, ↓W_mut, ↓W_app, ↓W_ins, ↓W_setK, ↓W_stK, ↓W_setIx, ↓W_strK, ↓W_upper, ↓W_join1, ↓W_start, ↓W_slot1, ↓W_slot2, ↓W_arg1, ↓W_arg2, ↓W_sFrz, ↓W_strb, endsD, wipeE, List.foldr_cons, List.foldr_nil, List.length_cons, List.length_nil, List.map_cons, List.map_nil, List.cons_append, List.nil_append, List.append_nil, List.replicate, List.getElem?_cons_zero, List.getElem?_cons_succ, List.getElem?_nil, List.set_cons_zero, List.set_cons_succ, Nat.reduceAdd, Nat.reduceSub, Nat.zero_add, if_true, if_false, Bool.false_eq_true, Bool.not_true, Bool.not_false, true_and, and_true, List.forall_mem_cons, List.mem_cons, List.not_mem_nil, or_false, forall_eq_or_imp, forall_eq, false_and, and_false, implies_true, false_or, Option.map_some, Option.map_none, ite_self, Bool.and_true, Bool.true_and, Bool.and_false, Bool.false_and, List.forall_mem_nil, decide_true, decide_false, isNonD, signsD]
      refine ⟨rfl, fun d hd hn => ?_, fun ds hd hn => ?_⟩
      · simp -dsimp only [↓W_var, ↓W_var1, ↓W_var2, ↓W_var3, ↓W_c, ↓W_frz, ↓W_frz1, ↓W_frz2, ↓W_frz3, ↓W_frz4, ↓W_op, ↓W_call, ↓W_fn, ↓W_fn0, ↓W_fnK, ↓W_nil, ↓W_cons, ↓W_add1, ↓W_add2, ↓W_add3, ↓W_add4, ↓W_add5, ↓W_add6, ↓W_add7, ↓W_int, ↓W_int0, ↓W_mul1, ↓W_mul2, ↓W_eq1, ↓W_eq2, ↓W_eq3, ↓W_eq4, ↓W_ne1, ↓W_ne2, ↓W_ne3, ↓W_in1, ↓W_in2, ↓W_in3, ↓W_in4, ↓W_in5, ↓W_is1, ↓W_is2, ↓W_at, ↓W_atS, ↓W_ix1, ↓W_ix2, ↓W_ix3, ↓W_ix4, ↓W_sl, ↓W_on, ↓W_os, ↓W_part, ↓W_sl1, ↓W_sl2, ↓W_sl3, ↓W_sl4, ↓W_len1, ↓W_len2, ↓W_len3, ↓W_len4, ↓W_abs, ↓W_intf, ↓W_strf, ↓W_list1, ↓W_list2, ↓W_list3, ↓W_tup1, ↓W_tup2, ↓W_tup3, ↓W_max, ↓W_min, ↓W_allK, ↓W_all1, ↓W_isi1, ↓W_isi2, ↓W_k_ns, ↓W_k_bs, ↓W_k_is, ↓W_k_ss, ↓W_k_ts, ↓W_k_ls, ↓W_k_nb, ↓W_k_bb, ↓W_k_ib, ↓W_k_sb, ↓W_k_tb, ↓W_k_lb, ↓W_k_ni, ↓W_k_bi, ↓W_k_ii, ↓W_k_si, ↓W_k_ti, ↓W_k_li, ↓W_k_nt, ↓W_k_bt, ↓W_k_it, ↓W_k_st, ↓W_k_tt, ↓W_k_lt, ↓W_k_nl, ↓W_k_bl, ↓W_k_il, ↓W_k_sl, ↓W_k_tl, ↓W_k_ll, ↓W_valsK, ↓W_etup, ↓W_elst, ↓W_vals0, ↓W_vals1, ↓W_bool, ↓W_bool1, ↓W_tand, ↓W_tor, ↓W_tnot, ↓W_tru, ↓W_tru1, ↓W_tru2, ↓W_tru3, ↓W_tru4, ↓W_tru5, ↓W_tru6, ↓W_tru7, ↓W_bo, ↓W_eand, ↓W_eor, ↓W_enot, ↓W_ink, ↓W_eneg, ↓W_snil, ↓W_seq, ↓W_asg, ↓W_asg1, ↓W_asg2, ↓W_asg3, ↓W_ret, ↓W_hand1, ↓W_hand2, ↓W_hand3, ↓W_hand4, ↓W_expr, ↓W_if, ↓W_for, ↓W_any, ↓W_it1, ↓W_it2, ↓W_it3, ↓W_rg1, ↓W_lc, ↓W_bn, ↓W_yes, ↓W_ownK, ↓W_mut, ↓W_app, ↓W_ins, ↓W_setK, ↓W_stK, ↓W_setIx, ↓W_strK, ↓W_upper, ↓W_join1, ↓W_start, ↓W_slot1, ↓W_slot2, ↓W_arg1, ↓W_arg2, ↓W_sFrz, ↓W_strb, endsD, wipeE, List.foldr_cons, List.foldr_nil, List.length_cons, List.length_nil, List.map_cons, List.map_nil, List.cons_append, List.nil_append, List.append_nil, List.replicate, List.getElem?_cons_zero, List.getElem?_cons_succ, List.getElem?_nil, List.set_cons_zero, List.set_cons_succ, Nat.reduceAdd, Nat.reduceSub, Nat.zero_add, if_true, if_false, Bool.false_eq_true, Bool.not_true, Bool.not_false, true_and, and_true, List.forall_mem_cons, List.mem_cons, List.not_mem_nil, or_false, forall_eq_or_imp, forall_eq, false_and, and_false, implies_true, false_or, Option.map_some, Option.map_none, ite_self, Bool.and_true, Bool.true_and, Bool.and_false, Bool.false_and, List.forall_mem_nil, decide_true, decide_false, isNonD, signsD]
        exact ⟨_, rfl, hY _ ⟨hd, hn⟩⟩
      · simp -dsimp only [↓W_var, ↓W_var1, ↓W_var2, ↓W_var3, ↓W_c, ↓W_frz, ↓W_frz1, ↓W_frz2, ↓W_frz3, ↓W_frz4, ↓W_op, ↓W_call, ↓W_fn, ↓W_fn0, ↓W_fnK, ↓W_nil, ↓W_cons, ↓W_add1, ↓W_add2, ↓W_add3, ↓W_add4, ↓W_add5, ↓W_add6, ↓W_add7, ↓W_int, ↓W_int0, ↓W_mul1, ↓W_mul2, ↓W_eq1, ↓W_eq2, ↓W_eq3, ↓W_eq4, ↓W_ne1, ↓W_ne2, ↓W_ne3, ↓W_in1, ↓W_in2, ↓W_in3, ↓W_in4, ↓W_in5, ↓W_is1, ↓W_is2, ↓W_at, ↓W_atS, ↓W_ix1, ↓W_ix2, ↓W_ix3, ↓W_ix4, ↓W_sl, ↓W_on, ↓W_os, ↓W_part, ↓W_sl1, ↓W_sl2, ↓W_sl3, ↓W_sl4, ↓W_len1, ↓W_len2, ↓W_len3, ↓W_len4, ↓W_abs, ↓W_intf, ↓W_strf, ↓W_list1, ↓W_list2, ↓W_list3, ↓W_tup1, ↓W_tup2, ↓W_tup3, ↓W_max, ↓W_min, ↓W_allK, ↓W_all1, ↓W_isi1, ↓W_isi2, ↓W_k_ns, ↓W_k_bs, ↓W_k_is, ↓W_k_ss, ↓W_k_ts, ↓W_k_ls, ↓W_k_nb, ↓W_k_bb, ↓W_k_ib, ↓W_k_sb, ↓W_k_tb, ↓W_k_lb, ↓W_k_ni, ↓W_k_bi, ↓W_k_ii, ↓W_k_si, ↓W_k_ti, ↓W_k_li, ↓W_k_nt, ↓W_k_bt, ↓W_k_it, ↓W_k_st, ↓W_k_tt, ↓W_k_lt, ↓W_k_nl, ↓W_k_bl, ↓W_k_il, ↓W_k_sl, ↓W_k_tl, ↓W_k_ll, ↓W_valsK, ↓W_etup, ↓W_elst, ↓W_vals0, ↓W_vals1, ↓W_bool, ↓W_bool1, ↓W_tand, ↓W_tor, ↓W_tnot, ↓W_tru, ↓W_tru1, ↓W_tru2, ↓W_tru3, ↓W_tru4, ↓W_tru5, ↓W_tru6, ↓W_tru7, ↓W_bo, ↓W_eand, ↓W_eor, ↓W_enot, ↓W_ink, ↓W_eneg, ↓W_snil, ↓W_seq, ↓W_asg, ↓W_asg1, ↓W_asg2, ↓W_asg3, ↓W_ret, ↓W_hand1, ↓W_hand2, ↓W_hand3, ↓W_hand4, ↓W_expr, ↓W_if, ↓W_for, ↓W_any, ↓W_it1, ↓W_it2, ↓W_it3, ↓W_rg1, ↓W_lc, ↓W_bn, ↓W_yes, ↓W_ownK, ↓W_mut, ↓W_app, ↓W_ins, ↓W_setK, ↓W_stK, ↓W_setIx, ↓W_strK, ↓W_upper, ↓W_join1, ↓W_start, ↓W_slot1, ↓W_slot2, ↓W_arg1, ↓W_arg2, ↓W_sFrz, ↓W_strb, endsD, wipeE, List.foldr_cons, List.foldr_nil, List.length_cons, List.length_nil, List.map_cons, List.map_nil, List.cons_append, List.nil_append, List.append_nil, List.replicate, List.getElem?_cons_zero, List.getElem?_cons_succ, List.getElem?_nil, List.set_cons_zero, List.set_cons_succ, Nat.reduceAdd, Nat.reduceSub, Nat.zero_add, if_true, if_false, Bool.false_eq_true, Bool.not_true, Bool.not_false, true_and, and_true, List.forall_mem_cons, List.mem_cons, List.not_mem_nil, or_false, forall_eq_or_imp, forall_eq, false_and, and_false, implies_true, false_or, Option.map_some, Option.map_none, ite_self, Bool.and_true, Bool.true_and, Bool.and_false, Bool.false_and, List.forall_mem_nil, decide_true, decide_false, isNonD, signsD]
        exact ⟨_, rfl, hY _ ⟨hd, hn⟩⟩
    have hm : ∀ e ∈ items, DeepD 2 e ∧ SeqN e := fun e me => by
      obtain ⟨i, hi⟩ := List.mem_iff_getElem?.mp me
      have hi2 : i < items.length := (List.getElem?_eq_some_iff.mp hi).1
      exact he i _ e (List.getElem?_eq_getElem (by omega)) hi
    have hl1 : items.length = 8 := by rw [hl0, range_len]; rfl
    rw [List.nil_append]
    simp -dsimp only [↓W_var, ↓W_var1, ↓W_var2, ↓W_var3, ↓W_c, ↓W_frz, ↓W_frz1, ↓W_frz2, ↓W_frz3, ↓W_frz4, ↓W_op, ↓W_call, ↓W_fn, ↓W_fn0, ↓W_fnK, ↓W_nil, ↓W_cons, ↓W_add1, ↓W_add2, ↓W_add3, ↓W_add4, ↓W_add5, ↓W_add6, ↓W_add7, ↓W_int, ↓W_int0, ↓W_mul1, ↓W_mul2, ↓W_eq1, ↓W_eq2, ↓W_eq3, ↓W_eq4, ↓W_ne1, ↓W_ne2, ↓W_ne3, ↓W_in1, ↓W_in2, ↓W_in3, ↓W_in4, ↓W_in5, ↓W_is1, ↓W_is2, ↓W_at, ↓W_atS, ↓W_ix1, ↓W_ix2, ↓W_ix3, ↓W_ix4, ↓W_sl, ↓W_on, ↓W_os, ↓W_part, ↓W_sl1, ↓W_sl2, ↓W_sl3, ↓W_sl4, ↓W_len1, ↓W_len2, ↓W_len3, ↓W_len4, ↓W_abs, ↓W_intf, ↓W_strf, ↓W_list1, ↓W_list2, ↓W_list3, ↓W_tup1, ↓W_tup2, ↓W_tup3, ↓W_max, ↓W_min, ↓W_allK, ↓W_all1, ↓W_isi1, ↓W_isi2, ↓W_k_ns, ↓W_k_bs, ↓W_k_is, ↓W_k_ss, ↓W_k_ts, ↓W_k_ls, ↓W_k_nb, ↓W_k_bb, ↓W_k_ib, ↓W_k_sb, ↓W_k_tb, ↓W_k_lb, ↓W_k_ni, ↓W_k_bi, ↓W_k_ii, ↓W_k_si, ↓W_k_ti, ↓W_k_li, ↓W_k_nt, ↓W_k_bt, ↓W_k_it, ↓W_k_st, ↓W_k_tt, ↓W_k_lt, ↓W_k_nl, ↓W_k_bl, ↓W_k_il, ↓W_k_sl, ↓W_k_tl, ↓W_k_ll, ↓W_valsK, ↓W_etup, ↓W_elst, ↓W_vals0, ↓W_vals1, ↓W_bool, ↓W_bool1, ↓W_tand, ↓W_tor, ↓W_tnot, ↓W_tru, ↓W_tru1, ↓W_tru2, ↓W_tru3, ↓W_tru4, ↓W_tru5, ↓W_tru6, ↓W_tru7, ↓W_bo, ↓W_eand, ↓W_eor, ↓W_enot, ↓W_ink, ↓W_eneg, ↓W_snil, ↓W_seq, ↓W_asg, ↓W_asg1, ↓W_asg2, ↓W_asg3, ↓W_ret, ↓W_hand1, ↓W_hand2, ↓W_hand3, ↓W_hand4, ↓W_expr, ↓W_if, ↓W_for, ↓W_any, ↓W_it1, ↓W_it2, ↓W_it3, ↓W_rg1, ↓W_lc, ↓W_bn, ↓W_yes, ↓W_ownK, ↓W_mut, ↓W_app, ↓W_ins, ↓W_setK, ↓W_stK, ↓W_setIx, ↓W_strK, ↓W_upper, ↓W_join1, ↓W_start, ↓W_slot1, ↓W_slot2, ↓W_arg1, ↓W_arg2, ↓W_sFrz, ↓W_strb, endsD, wipeE, List.foldr_cons, List.foldr_nil, List.length_cons, List.length_nil, List.map_cons, List.map_nil, List.cons_append, List.nil_append, List.append_nil, List.replicate, List.getElem?_cons_zero, List.getElem?_cons_succ, List.getElem?_nil, List.set_cons_zero, List.set_cons_succ, Nat.reduceAdd, Nat.reduceSub, Nat.zero_add, if_true, if_false, Bool.false_eq_true, Bool.not_true, Bool.not_false, true_and, and_true, List.forall_mem_cons, List.mem_cons, List.not_mem_nil, or_false, forall_eq_or_imp, forall_eq, false_and, and_false, implies_true, false_or, Option.map_some, Option.map_none, ite_self, Bool.and_true, Bool.true_and, Bool.and_false, Bool.false_and, List.forall_mem_nil, decide_true, decide_false, isNonD, signsD]
    refine ⟨nn_of (by omega), lcW_map (fun _ => true) id items [] (fun d hd Y N hy _ => ?_) ?_⟩
    · simp -dsimp only [↓W_var, ↓W_var1, ↓W_var2, ↓W_var3, ↓W_c, ↓W_frz, ↓W_frz1, ↓W_frz2, ↓W_frz3, ↓W_frz4, ↓W_op, ↓W_call, ↓W_fn, ↓W_fn0, ↓W_fnK, ↓W_nil, ↓W_cons, ↓W_add1, ↓W_add2, ↓W_add3, ↓W_add4, ↓W_add5, ↓W_add6, ↓W_add7, ↓W_int, ↓W_int0, ↓W_mul1, ↓W_mul2, ↓W_eq1, ↓W_eq2, ↓W_eq3, ↓W_eq4, ↓W_ne1, ↓W_ne2, ↓W_ne3, ↓W_in1, ↓W_in2, ↓W_in3, ↓W_in4, ↓W_in5, ↓W_is1, ↓W_is2, ↓W_at, ↓W_atS, ↓W_ix1, ↓W_ix2, ↓W_ix3, ↓W_ix4, ↓W_sl, ↓W_on, ↓W_os, ↓W_part, ↓W_sl1, ↓W_sl2, ↓W_sl3, ↓W_sl4, ↓W_len1, ↓W_len2, ↓W_len3, ↓W_len4, ↓W_abs, ↓W_intf, ↓W_strf, ↓W_list1, ↓W_list2, ↓W_list3, ↓W_tup1, ↓W_tup2, ↓W_tup3, ↓W_max, ↓W_min, ↓W_allK, ↓W_all1, ↓W_isi1, ↓W_isi2, ↓W_k_ns, ↓W_k_bs, ↓W_k_is, ↓W_k_ss, ↓W_k_ts, ↓W_k_ls, ↓W_k_nb, ↓W_k_bb, ↓W_k_ib, ↓W_k_sb, ↓W_k_tb, ↓W_k_lb, ↓W_k_ni, ↓W_k_bi, ↓W_k_ii, ↓W_k_si, ↓W_k_ti, ↓W_k_li, ↓W_k_nt, ↓W_k_bt, ↓W_k_it, ↓W_k_st, ↓W_k_tt, ↓W_k_lt, ↓W_k_nl, ↓W_k_bl, ↓W_k_il, ↓W_k_sl, ↓W_k_tl, ↓W_k_ll, ↓W_valsK, ↓W_etup, ↓W_elst, ↓W_vals0, ↓W_vals1, ↓W_bool, ↓W_bool1, ↓W_tand, ↓W_tor, ↓W_tnot, ↓W_tru, ↓W_tru1, ↓W_tru2, ↓W_tru3, ↓W_tru4, ↓W_tru5, ↓W_tru6, ↓W_tru7, ↓W_bo, ↓W_eand, ↓W_eor, ↓W_enot, ↓W_ink, ↓W_eneg, ↓W_snil, ↓W_seq, ↓W_asg, ↓W_asg1, ↓W_asg2, ↓W_asg3, ↓W_ret, ↓W_hand1, ↓W_hand2, ↓W_hand3, ↓W_hand4, ↓W_expr, ↓W_if, ↓W_for, ↓W_any, ↓W_it1, ↓W_it2, ↓W_it3, ↓W_rg1, ↓W_lc, ↓W_bn, ↓W_yes, ↓W_ownK, ↓W_mut, ↓W_app, ↓W_ins, ↓W_setK, ↓W_stK, ↓W_setIx, ↓W_strK, ↓W_upper, ↓W_join1, ↓W_start, ↓W_slot1, ↓W_slot2, ↓W_arg1, ↓W_arg2, ↓W_sFrz, ↓W_strb, endsD, wipeE, List.foldr_cons, List.foldr_nil, List.length_cons, List.length_nil, List.map_cons, List.map_nil, List.cons_append, List.nil_append, List.append_nil, List.replicate, List.getElem?_cons_zero, List.getElem?_cons_succ, List.getElem?_nil, List.set_cons_zero, List.set_cons_succ, Nat.reduceAdd, Nat.reduceSub, Nat.zero_add, if_true, if_false, Bool.false_eq_true, Bool.not_true, Bool.not_false, true_and, and_true, List.forall_mem_cons, List.mem_cons, List.not_mem_nil, or_false, forall_eq_or_imp, forall_eq, false_and, and_false, implies_true, false_or, Option.map_some, Option.map_none, ite_self, Bool.and_true, Bool.true_and, Bool.and_false, Bool.false_and, List.forall_mem_nil, decide_true, decide_false, isNonD, signsD]
      refine copied_of (hm d hd).1 fun r hr => ?_
      rcases hr with rfl | ⟨xs, rfl, rfl⟩
      · exact ⟨_, rfl, hy rfl⟩
      · exact ⟨_, rfl, hy rfl⟩
    rw [copy_id]
    simp -dsimp only [↓W_var, ↓W_var1, ↓W_var2, ↓W_var3, ↓W_c, ↓W_frz, ↓W_frz1, ↓W_frz2, ↓W_frz3, ↓W_frz4, ↓W_op, ↓W_call, ↓W_fn, ↓W_fn0, ↓W_fnK, ↓W_nil, ↓W_cons, ↓W_add1, ↓W_add2, ↓W_add3, ↓W_add4, ↓W_add5, ↓W_add6, ↓W_add7, ↓W_int, ↓W_int0, ↓W_mul1, ↓W_mul2, ↓W_eq1, ↓W_eq2, ↓W_eq3, ↓W_eq4, ↓W_ne1, ↓W_ne2, ↓W_ne3, ↓W_in1, ↓W_in2, ↓W_in3, ↓W_in4, ↓W_in5, ↓W_is1, ↓W_is2, ↓W_at, ↓W_atS, ↓W_ix1, ↓W_ix2, ↓W_ix3, ↓W_ix4, ↓W_sl, ↓W_on, ↓W_os, ↓W_part, ↓W_sl1, ↓W_sl2, ↓W_sl3, ↓W_sl4, ↓W_len1, ↓W_len2, ↓W_len3, ↓W_len4, ↓W_abs, ↓W_intf, ↓W_strf, ↓W_list1, ↓W_list2, ↓W_list3, ↓W_tup1, ↓W_tup2, ↓W_tup3, ↓W_max, ↓W_min, ↓W_allK, ↓W_all1, ↓W_isi1, ↓W_isi2, ↓W_k_ns, ↓W_k_bs, ↓W_k_is, ↓W_k_ss, ↓W_k_ts, ↓W_k_ls, ↓W_k_nb, ↓W_k_bb, ↓W_k_ib, ↓W_k_sb, ↓W_k_tb, ↓W_k_lb, ↓W_k_ni, ↓W_k_bi, ↓W_k_ii, ↓W_k_si, ↓W_k_ti, ↓W_k_li, ↓W_k_nt, ↓W_k_bt, ↓W_k_it, ↓W_k_st, ↓W_k_tt, ↓W_k_lt, ↓W_k_nl, ↓W_k_bl, ↓W_k_il, ↓W_k_sl, ↓W_k_tl, ↓W_k_ll, ↓W_valsK, ↓W_etup, ↓W_elst, ↓W_vals0, ↓W_vals1, ↓W_bool, ↓W_bool1, ↓W_tand, ↓W_tor, ↓W_tnot, ↓W_tru, ↓W_tru1, ↓W_tru2, ↓W_tru3, ↓W_tru4, ↓W_tru5, ↓W_tru6, ↓W_tru7, ↓W_bo, ↓W_eand, ↓W_eor, ↓W_enot, ↓W_ink, ↓W_eneg, ↓W_snil, ↓W_seq, ↓W_asg, ↓W_asg1, ↓W_asg2, ↓W_asg3, ↓W_ret, ↓W_hand1, ↓W_hand2, ↓W_hand3, ↓W_hand4, ↓W_expr, ↓W_if, ↓W_for, ↓W_any, ↓W_it1, ↓W_it2, ↓W_it3, ↓W_rg1, ↓W_lc, ↓W_bn, ↓W_yes, ↓W_ownK, ↓W_mut, ↓W_app, ↓W_ins, ↓W_setK, ↓W_stK, ↓W_setIx, ↓W_strK, ↓W_upper, ↓W_join1, ↓W_start, ↓W_slot1, ↓W_slot2, ↓W_arg1, ↓W_arg2, ↓W_sFrz, ↓W_strb, endsD, wipeE, List.foldr_cons, List.foldr_nil, List.length_cons, List.length_nil, List.map_cons, List.map_nil, List.cons_append, List.nil_append, List.append_nil, List.replicate, List.getElem?_cons_zero, List.getElem?_cons_succ, List.getElem?_nil, List.set_cons_zero, List.set_cons_succ, Nat.reduceAdd, Nat.reduceSub, Nat.zero_add, if_true, if_false, Bool.false_eq_true, Bool.not_true, Bool.not_false, true_and, and_true, List.forall_mem_cons, List.mem_cons, List.not_mem_nil, or_false, forall_eq_or_imp, forall_eq, false_and, and_false, implies_true, false_or, Option.map_some, Option.map_none, ite_self, Bool.and_true, Bool.true_and, Bool.and_false, Bool.false_and, List.forall_mem_nil, decide_true, decide_false, isNonD, signsD]
    refine ⟨nn_of (by omega), lcW_map (fun _ => true) (fun d => D.bl (isNameD d)) items [] (fun d hd Y N hy _ => ?_) ?_⟩
    · simp -dsimp only [↓W_var, ↓W_var1, ↓W_var2, ↓W_var3, ↓W_c, ↓W_frz, ↓W_frz1, ↓W_frz2, ↓W_frz3, ↓W_frz4, ↓W_op, ↓W_call, ↓W_fn, ↓W_fn0, ↓W_fnK, ↓W_nil, ↓W_cons, ↓W_add1, ↓W_add2, ↓W_add3, ↓W_add4, ↓W_add5, ↓W_add6, ↓W_add7, ↓W_int, ↓W_int0, ↓W_mul1, ↓W_mul2, ↓W_eq1, ↓W_eq2, ↓W_eq3, ↓W_eq4, ↓W_ne1, ↓W_ne2, ↓W_ne3, ↓W_in1, ↓W_in2, ↓W_in3, ↓W_in4, ↓W_in5, ↓W_is1, ↓W_is2, ↓W_at, ↓W_atS, ↓W_ix1, ↓W_ix2, ↓W_ix3, ↓W_ix4, ↓W_sl, ↓W_on, ↓W_os, ↓W_part, ↓W_sl1, ↓W_sl2, ↓W_sl3, ↓W_sl4, ↓W_len1, ↓W_len2, ↓W_len3, ↓W_len4, ↓W_abs, ↓W_intf, ↓W_strf, ↓W_list1, ↓W_list2, ↓W_list3, ↓W_tup1, ↓W_tup2, ↓W_tup3, ↓W_max, ↓W_min, ↓W_allK, ↓W_all1, ↓W_isi1, ↓W_isi2, ↓W_k_ns, ↓W_k_bs, ↓W_k_is, ↓W_k_ss, ↓W_k_ts, ↓W_k_ls, ↓W_k_nb, ↓W_k_bb, ↓W_k_ib, ↓W_k_sb, ↓W_k_tb, ↓W_k_lb, ↓W_k_ni, ↓W_k_bi, ↓W_k_ii, ↓W_k_si, ↓W_k_ti, ↓W_k_li, ↓W_k_nt, ↓W_k_bt, ↓W_k_it, ↓W_k_st, ↓W_k_tt, ↓W_k_lt, ↓W_k_nl, ↓W_k_bl, ↓W_k_il, ↓W_k_sl, ↓W_k_tl, ↓W_k_ll, ↓W_valsK, ↓W_etup, ↓W_elst, ↓W_vals0, ↓W_vals1, ↓W_bool, ↓W_bool1, ↓W_tand, ↓W_tor, ↓W_tnot, ↓W_tru, ↓W_tru1, ↓W_tru2, ↓W_tru3, ↓W_tru4, ↓W_tru5, ↓W_tru6, ↓W_tru7, ↓W_bo, ↓W_eand, ↓W_eor, ↓W_enot, ↓W_ink, ↓W_eneg, ↓W_snil, ↓W_seq, ↓W_asg, ↓W_asg1, ↓W_asg2, ↓W_asg3, ↓W_ret, ↓W_hand1, ↓W_hand2, ↓W_hand3, ↓W_hand4, ↓W_expr, ↓W_if, ↓W_for, ↓W_any, ↓W_it1, ↓W_it2, ↓W_it3, ↓W_rg1, ↓W_lc, ↓W_bn, ↓W_yes, ↓W_ownK, ↓W_mut, ↓W_app, ↓W_ins, ↓W_setK, ↓W_stK, ↓W_setIx, ↓W_strK, ↓W_upper, ↓W_join1, ↓W_start, ↓W_slot1, ↓W_slot2, ↓W_arg1, ↓W_arg2, ↓W_sFrz, ↓W_strb, endsD, wipeE, List.foldr_cons, List.foldr_nil, List.length_cons, List.length_nil, List.map_cons, List.map_nil, List.cons_append, List.nil_append, List.append_nil, List.replicate, List.getElem?_cons_zero, List.getElem?_cons_succ, List.getElem?_nil, List.set_cons_zero, List.set_cons_succ, Nat.reduceAdd, Nat.reduceSub, Nat.zero_add, if_true, if_false, Bool.false_eq_true, Bool.not_true, Bool.not_false, true_and, and_true, List.forall_mem_cons, List.mem_cons, List.not_mem_nil, or_false, forall_eq_or_imp, forall_eq, false_and, and_false, implies_true, false_or, Option.map_some, Option.map_none, ite_self, Bool.and_true, Bool.true_and, Bool.and_false, Bool.false_and, List.forall_mem_nil, decide_true, decide_false, isNonD, signsD]
      refine isn_of (deep_ask (hm d hd).1) ?_
      simp -dsimp only [↓W_var, ↓W_var1, ↓W_var2, ↓W_var3, ↓W_c, ↓W_frz, ↓W_frz1, ↓W_frz2, ↓W_frz3, ↓W_frz4, ↓W_op, ↓W_call, ↓W_fn, ↓W_fn0, ↓W_fnK, ↓W_nil, ↓W_cons, ↓W_add1, ↓W_add2, ↓W_add3, ↓W_add4, ↓W_add5, ↓W_add6, ↓W_add7, ↓W_int, ↓W_int0, ↓W_mul1, ↓W_mul2, ↓W_eq1, ↓W_eq2, ↓W_eq3, ↓W_eq4, ↓W_ne1, ↓W_ne2, ↓W_ne3, ↓W_in1, ↓W_in2, ↓W_in3, ↓W_in4, ↓W_in5, ↓W_is1, ↓W_is2, ↓W_at, ↓W_atS, ↓W_ix1, ↓W_ix2, ↓W_ix3, ↓W_ix4, ↓W_sl, ↓W_on, ↓W_os, ↓W_part, ↓W_sl1, ↓W_sl2, ↓W_sl3, ↓W_sl4, ↓W_len1, ↓W_len2, ↓W_len3, ↓W_len4, ↓W_abs, ↓W_intf, ↓W_strf, ↓W_list1, ↓W_list2, ↓W_list3, ↓W_tup1, ↓W_tup2, ↓W_tup3, ↓W_max, ↓W_min, ↓W_allK, ↓W_all1, ↓W_isi1, ↓W_isi2, ↓W_k_ns, ↓W_k_bs, ↓W_k_is, ↓W_k_ss, ↓W_k_ts, ↓W_k_ls, ↓W_k_nb, ↓W_k_bb, ↓W_k_ib, ↓W_k_sb, ↓W_k_tb, ↓W_k_lb, ↓W_k_ni, ↓W_k_bi, ↓W_k_ii, ↓W_k_si, ↓W_k_ti, ↓W_k_li, ↓W_k_nt, ↓W_k_bt, ↓W_k_it, ↓W_k_st, ↓W_k_tt, ↓W_k_lt, ↓W_k_nl, ↓W_k_bl, ↓W_k_il, ↓W_k_sl, ↓W_k_tl, ↓W_k_ll, ↓W_valsK, ↓W_etup, ↓W_elst, ↓W_vals0, ↓W_vals1, ↓W_bool, ↓W_bool1, ↓W_tand, ↓W_tor, ↓W_tnot, ↓W_tru, ↓W_tru1, ↓W_tru2, ↓W_tru3, ↓W_tru4, ↓W_tru5, ↓W_tru6, ↓W_tru7, ↓W_bo, ↓W_eand, ↓W_eor, ↓W_enot, ↓W_ink, ↓W_eneg, ↓W_snil, ↓W_seq, ↓W_asg, ↓W_asg1, ↓W_asg2, ↓W_asg3, ↓W_ret, ↓W_hand1, ↓W_hand2, ↓W_hand3, ↓W_hand4, ↓W_expr, ↓W_if, ↓W_for, ↓W_any, ↓W_it1, ↓W_it2, ↓W_it3, ↓W_rg1, ↓W_lc, ↓W_bn, ↓W_yes, ↓W_ownK, ↓W_mut, ↓W_app, ↓W_ins, ↓W_setK, ↓W_stK, ↓W_setIx, ↓W_strK, ↓W_upper, ↓W_join1, ↓W_start, ↓W_slot1, ↓W_slot2, ↓W_arg1, ↓W_arg2, ↓W_sFrz, ↓W_strb, endsD, wipeE, List.foldr_cons, List.foldr_nil, List.length_cons, List.length_nil, List.map_cons, List.map_nil, List.cons_append, List.nil_append, List.append_nil, List.replicate, List.getElem?_cons_zero, List.getElem?_cons_succ, List.getElem?_nil, List.set_cons_zero, List.set_cons_succ, Nat.reduceAdd, Nat.reduceSub, Nat.zero_add, if_true, if_false, Bool.false_eq_true, Bool.not_true, Bool.not_false, true_and, and_true, List.forall_mem_cons, List.mem_cons, List.not_mem_nil, or_false, forall_eq_or_imp, forall_eq, false_and, and_false, implies_true, false_or, Option.map_some, Option.map_none, ite_self, Bool.and_true, Bool.true_and, Bool.and_false, Bool.false_and, List.forall_mem_nil, decide_true, decide_false, isNonD, signsD]
      exact ⟨_, rfl, hy rfl⟩
    rw [map_all]
    simp -dsimp only [↓W_var, ↓W_var1, ↓W_var2, ↓W_var3, ↓W_c, ↓W_frz, ↓W_frz1, ↓W_frz2, ↓W_frz3, ↓W_frz4, ↓W_op, ↓W_call, ↓W_fn, ↓W_fn0, ↓W_fnK, ↓W_nil, ↓W_cons, ↓W_add1, ↓W_add2, ↓W_add3, ↓W_add4, ↓W_add5, ↓W_add6, ↓W_add7, ↓W_int, ↓W_int0, ↓W_mul1, ↓W_mul2, ↓W_eq1, ↓W_eq2, ↓W_eq3, ↓W_eq4, ↓W_ne1, ↓W_ne2, ↓W_ne3, ↓W_in1, ↓W_in2, ↓W_in3, ↓W_in4, ↓W_in5, ↓W_is1, ↓W_is2, ↓W_at, ↓W_atS, ↓W_ix1, ↓W_ix2, ↓W_ix3, ↓W_ix4, ↓W_sl, ↓W_on, ↓W_os, ↓W_part, ↓W_sl1, ↓W_sl2, ↓W_sl3, ↓W_sl4, ↓W_len1, ↓W_len2, ↓W_len3, ↓W_len4, ↓W_abs, ↓W_intf, ↓W_strf, ↓W_list1, ↓W_list2, ↓W_list3, ↓W_tup1, ↓W_tup2, ↓W_tup3, ↓W_max, ↓W_min, ↓W_allK, ↓W_all1, ↓W_isi1, ↓W_isi2, ↓W_k_ns, ↓W_k_bs, ↓W_k_is, ↓W_k_ss, ↓W_k_ts, ↓W_k_ls, ↓W_k_nb, ↓W_k_bb, ↓W_k_ib, ↓W_k_sb, ↓W_k_tb, ↓W_k_lb, ↓W_k_ni, ↓W_k_bi, ↓W_k_ii, ↓W_k_si, ↓W_k_ti, ↓W_k_li, ↓W_k_nt, ↓W_k_bt, ↓W_k_it, ↓W_k_st, ↓W_k_tt, ↓W_k_lt, ↓W_k_nl, ↓W_k_bl, ↓W_k_il, ↓W_k_sl, ↓W_k_tl, ↓W_k_ll, ↓W_valsK, ↓W_etup, ↓W_elst, ↓W_vals0, ↓W_vals1, ↓W_bool, ↓W_bool1, ↓W_tand, ↓W_tor, ↓W_tnot, ↓W_tru, ↓W_tru1, ↓W_tru2, ↓W_tru3, ↓W_tru4, ↓W_tru5, ↓W_tru6, ↓W_tru7, ↓W_bo, ↓W_eand, ↓W_eor, ↓W_enot, ↓W_ink, ↓W_eneg, ↓W_snil, ↓W_seq, ↓W_asg, ↓W_asg1, ↓W_asg2, ↓W_asg3, ↓W_ret, ↓W_hand1, ↓W_hand2, ↓W_hand3, ↓W_hand4, ↓W_expr, ↓W_if, ↓W_for, ↓W_any, ↓W_it1, ↓W_it2, ↓W_it3, ↓W_rg1, ↓W_lc, ↓W_bn, ↓W_yes, ↓W_ownK, ↓W_mut, ↓W_app, ↓W_ins, ↓W_setK, ↓W_stK, ↓W_setIx, ↓W_strK, ↓W_upper, ↓W_join1, ↓W_start, ↓W_slot1, ↓W_slot2, ↓W_arg1, ↓W_arg2, ↓W_sFrz, ↓W_strb, endsD, wipeE, List.foldr_cons, List.foldr_nil, List.length_cons, List.length_nil, List.map_cons, List.map_nil, List.cons_append, List.nil_append, List.append_nil, List.replicate, List.getElem?_cons_zero, List.getElem?_cons_succ, List.getElem?_nil, List.set_cons_zero, List.set_cons_succ, Nat.reduceAdd, Nat.reduceSub, Nat.zero_add, if_true, if_false, Bool.false_eq_true, Bool.not_true, Bool.not_false, true_and, and_true, List.forall_mem_cons, List.mem_cons, List.not_mem_nil, or_false, forall_eq_or_imp, forall_eq, false_and, and_false, implies_true, false_or, Option.map_some, Option.map_none, ite_self, Bool.and_true, Bool.true_and, Bool.and_false, Bool.false_and, List.forall_mem_nil, decide_true, decide_false, isNonD, signsD]
    refine ⟨by decide, by decide, nn_of (by rw [range_len]; decide), ?_⟩
    refine forW_inv (fun i env => ∃ z6 z7 : Option SV, env = [none, some .sto, some (.val (.tup [.int 8, .int 12, .int 12, .int 7, .int 6, .int 400, .int 400, .int 8000])), some (.val (.lst items)), some (.val (.lst items)), some (.val (.lst (items.map fun d => D.bl (isNameD d)))), z6, z7, none, none]) (fun i d env N hi ⟨z6, z7, e⟩ hN => ?A) (fun env ⟨z6, z7, e⟩ => ?B) _ ⟨_, _, rfl⟩
    case A =>
      subst e
      obtain ⟨hj, rfl⟩ := range_at hi
      have hj8 : i < items.length := by
        rw [hl1]
        exact hj
      have e2 : items[i]? = some (items[i]'hj8) := List.getElem?_eq_getElem hj8
      have e3 : (items.map fun d => D.bl (isNameD d))[i]? = some (D.bl (isNameD (items[i]'hj8))) := by rw [List.getElem?_map, e2]; rfl
      have a2 := hm _ (List.getElem_mem hj8)
      rw [Int.zero_add]
      simp -dsimp only [↓W_var, ↓W_var1, ↓W_var2, ↓W_var3, ↓W_c, ↓W_frz, ↓W_frz1, ↓W_frz2, ↓W_frz3, ↓W_frz4, ↓W_op, ↓W_call, ↓W_fn, ↓W_fn0, ↓W_fnK, ↓W_nil, ↓W_cons, ↓W_add1, ↓W_add2, ↓W_add3, ↓W_add4, ↓W_add5, ↓W_add6, ↓W_add7, ↓W_int, ↓W_int0, ↓W_mul1, ↓W_mul2, ↓W_eq1, ↓W_eq2, ↓W_eq3, ↓W_eq4, ↓W_ne1, ↓W_ne2, ↓W_ne3, ↓W_in1, ↓W_in2, ↓W_in3, ↓W_in4, ↓W_in5, ↓W_is1, ↓W_is2, ↓W_at, ↓W_atS, ↓W_ix1, ↓W_ix2, ↓W_ix3, ↓W_ix4, ↓W_sl, ↓W_on, ↓W_os, ↓W_part, ↓W_sl1, ↓W_sl2, ↓W_sl3, ↓W_sl4, ↓W_len1, ↓W_len2, ↓W_len3, ↓W_len4, ↓W_abs, ↓W_intf, ↓W_strf, ↓W_list1, ↓W_list2, ↓W_list3, ↓W_tup1, ↓W_tup2, ↓W_tup3, ↓W_max, ↓W_min, ↓W_allK, ↓W_all1, ↓W_isi1, ↓W_isi2, ↓W_k_ns, ↓W_k_bs, ↓W_k_is, ↓W_k_ss, ↓W_k_ts, ↓W_k_ls, ↓W_k_nb, ↓W_k_bb, ↓W_k_ib, ↓W_k_sb, ↓W_k_tb, ↓W_k_lb, ↓W_k_ni, ↓W_k_bi, ↓W_k_ii, ↓W_k_si, ↓W_k_ti, ↓W_k_li, ↓W_k_nt, ↓W_k_bt, ↓W_k_it, ↓W_k_st, ↓W_k_tt, ↓W_k_lt, ↓W_k_nl, ↓W_k_bl, ↓W_k_il, ↓W_k_sl, ↓W_k_tl, ↓W_k_ll, ↓W_valsK, ↓W_etup, ↓W_elst, ↓W_vals0, ↓W_vals1, ↓W_bool, ↓W_bool1, ↓W_tand, ↓W_tor, ↓W_tnot, ↓W_tru, ↓W_tru1, ↓W_tru2, ↓W_tru3, ↓W_tru4, ↓W_tru5, ↓W_tru6, ↓W_tru7, ↓W_bo, ↓W_eand, ↓W_eor, ↓W_enot, ↓W_ink, ↓W_eneg, ↓W_snil, ↓W_seq, ↓W_asg, ↓W_asg1, ↓W_asg2, ↓W_asg3, ↓W_ret, ↓W_hand1, ↓W_hand2, ↓W_hand3, ↓W_hand4, ↓W_expr, ↓W_if, ↓W_for, ↓W_any, ↓W_it1, ↓W_it2, ↓W_it3, ↓W_rg1, ↓W_lc, ↓W_bn, ↓W_yes, ↓W_ownK, ↓W_mut, ↓W_app, ↓W_ins, ↓W_setK, ↓W_stK, ↓W_setIx, ↓W_strK, ↓W_upper, ↓W_join1, ↓W_start, ↓W_slot1, ↓W_slot2, ↓W_arg1, ↓W_arg2, ↓W_sFrz, ↓W_strb, endsD, wipeE, List.foldr_cons, List.foldr_nil, List.length_cons, List.length_nil, List.map_cons, List.map_nil, List.cons_append, List.nil_append, List.append_nil, List.replicate, List.getElem?_cons_zero, List.getElem?_cons_succ, List.getElem?_nil, List.set_cons_zero, List.set_cons_succ, Nat.reduceAdd, Nat.reduceSub, Nat.zero_add, if_true, if_false, Bool.false_eq_true, Bool.not_true, Bool.not_false, true_and, and_true, List.forall_mem_cons, List.mem_cons, List.not_mem_nil, or_false, forall_eq_or_imp, forall_eq, false_and, and_false, implies_true, false_or, Option.map_some, Option.map_none, ite_self, Bool.and_true, Bool.true_and, Bool.and_false, Bool.false_and, List.forall_mem_nil, decide_true, decide_false, isNonD, signsD]
      refine atK_at e2 ?_
      simp -dsimp only [↓W_var, ↓W_var1, ↓W_var2, ↓W_var3, ↓W_c, ↓W_frz, ↓W_frz1, ↓W_frz2, ↓W_frz3, ↓W_frz4, ↓W_op, ↓W_call, ↓W_fn, ↓W_fn0, ↓W_fnK, ↓W_nil, ↓W_cons, ↓W_add1, ↓W_add2, ↓W_add3, ↓W_add4, ↓W_add5, ↓W_add6, ↓W_add7, ↓W_int, ↓W_int0, ↓W_mul1, ↓W_mul2, ↓W_eq1, ↓W_eq2, ↓W_eq3, ↓W_eq4, ↓W_ne1, ↓W_ne2, ↓W_ne3, ↓W_in1, ↓W_in2, ↓W_in3, ↓W_in4, ↓W_in5, ↓W_is1, ↓W_is2, ↓W_at, ↓W_atS, ↓W_ix1, ↓W_ix2, ↓W_ix3, ↓W_ix4, ↓W_sl, ↓W_on, ↓W_os, ↓W_part, ↓W_sl1, ↓W_sl2, ↓W_sl3, ↓W_sl4, ↓W_len1, ↓W_len2, ↓W_len3, ↓W_len4, ↓W_abs, ↓W_intf, ↓W_strf, ↓W_list1, ↓W_list2, ↓W_list3, ↓W_tup1, ↓W_tup2, ↓W_tup3, ↓W_max, ↓W_min, ↓W_allK, ↓W_all1, ↓W_isi1, ↓W_isi2, ↓W_k_ns, ↓W_k_bs, ↓W_k_is, ↓W_k_ss, ↓W_k_ts, ↓W_k_ls, ↓W_k_nb, ↓W_k_bb, ↓W_k_ib, ↓W_k_sb, ↓W_k_tb, ↓W_k_lb, ↓W_k_ni, ↓W_k_bi, ↓W_k_ii, ↓W_k_si, ↓W_k_ti, ↓W_k_li, ↓W_k_nt, ↓W_k_bt, ↓W_k_it, ↓W_k_st, ↓W_k_tt, ↓W_k_lt, ↓W_k_nl, ↓W_k_bl, ↓W_k_il, ↓W_k_sl, ↓W_k_tl, ↓W_k_ll, ↓W_valsK, ↓W_etup, ↓W_elst, ↓W_vals0, ↓W_vals1, ↓W_bool, ↓W_bool1, ↓W_tand, ↓W_tor, ↓W_tnot, ↓W_tru, ↓W_tru1, ↓W_tru2, ↓W_tru3, ↓W_tru4, ↓W_tru5, ↓W_tru6, ↓W_tru7, ↓W_bo, ↓W_eand, ↓W_eor, ↓W_enot, ↓W_ink, ↓W_eneg, ↓W_snil, ↓W_seq, ↓W_asg, ↓W_asg1, ↓W_asg2, ↓W_asg3, ↓W_ret, ↓W_hand1, ↓W_hand2, ↓W_hand3, ↓W_hand4, ↓W_expr, ↓W_if, ↓W_for, ↓W_any, ↓W_it1, ↓W_it2, ↓W_it3, ↓W_rg1, ↓W_lc, ↓W_bn, ↓W_yes, ↓W_ownK, ↓W_mut, ↓W_app, ↓W_ins, ↓W_setK, ↓W_stK, ↓W_setIx, ↓W_strK, ↓W_upper, ↓W_join1, ↓W_start, ↓W_slot1, ↓W_slot2, ↓W_arg1, ↓W_arg2, ↓W_sFrz, ↓W_strb, endsD, wipeE, List.foldr_cons, List.foldr_nil, List.length_cons, List.length_nil, List.map_cons, List.map_nil, List.cons_append, List.nil_append, List.append_nil, List.replicate, List.getElem?_cons_zero, List.getElem?_cons_succ, List.getElem?_nil, List.set_cons_zero, List.set_cons_succ, Nat.reduceAdd, Nat.reduceSub, Nat.zero_add, if_true, if_false, Bool.false_eq_true, Bool.not_true, Bool.not_false, true_and, and_true, List.forall_mem_cons, List.mem_cons, List.not_mem_nil, or_false, forall_eq_or_imp, forall_eq, false_and, and_false, implies_true, false_or, Option.map_some, Option.map_none, ite_self, Bool.and_true, Bool.true_and, Bool.and_false, Bool.false_and, List.forall_mem_nil, decide_true, decide_false, isNonD, signsD]
      refine due_of (deep_ask a2.1) ?_
      simp -dsimp only [↓W_var, ↓W_var1, ↓W_var2, ↓W_var3, ↓W_c, ↓W_frz, ↓W_frz1, ↓W_frz2, ↓W_frz3, ↓W_frz4, ↓W_op, ↓W_call, ↓W_fn, ↓W_fn0, ↓W_fnK, ↓W_nil, ↓W_cons, ↓W_add1, ↓W_add2, ↓W_add3, ↓W_add4, ↓W_add5, ↓W_add6, ↓W_add7, ↓W_int, ↓W_int0, ↓W_mul1, ↓W_mul2, ↓W_eq1, ↓W_eq2, ↓W_eq3, ↓W_eq4, ↓W_ne1, ↓W_ne2, ↓W_ne3, ↓W_in1, ↓W_in2, ↓W_in3, ↓W_in4, ↓W_in5, ↓W_is1, ↓W_is2, ↓W_at, ↓W_atS, ↓W_ix1, ↓W_ix2, ↓W_ix3, ↓W_ix4, ↓W_sl, ↓W_on, ↓W_os, ↓W_part, ↓W_sl1, ↓W_sl2, ↓W_sl3, ↓W_sl4, ↓W_len1, ↓W_len2, ↓W_len3, ↓W_len4, ↓W_abs, ↓W_intf, ↓W_strf, ↓W_list1, ↓W_list2, ↓W_list3, ↓W_tup1, ↓W_tup2, ↓W_tup3, ↓W_max, ↓W_min, ↓W_allK, ↓W_all1, ↓W_isi1, ↓W_isi2, ↓W_k_ns, ↓W_k_bs, ↓W_k_is, ↓W_k_ss, ↓W_k_ts, ↓W_k_ls, ↓W_k_nb, ↓W_k_bb, ↓W_k_ib, ↓W_k_sb, ↓W_k_tb, ↓W_k_lb, ↓W_k_ni, ↓W_k_bi, ↓W_k_ii, ↓W_k_si, ↓W_k_ti, ↓W_k_li, ↓W_k_nt, ↓W_k_bt, ↓W_k_it, ↓W_k_st, ↓W_k_tt, ↓W_k_lt, ↓W_k_nl, ↓W_k_bl, ↓W_k_il, ↓W_k_sl, ↓W_k_tl, ↓W_k_ll, ↓W_valsK, ↓W_etup, ↓W_elst, ↓W_vals0, ↓W_vals1, ↓W_bool, ↓W_bool1, ↓W_tand, ↓W_tor, ↓W_tnot, ↓W_tru, ↓W_tru1, ↓W_tru2, ↓W_tru3, ↓W_tru4, ↓W_tru5, ↓W_tru6, ↓W_tru7, ↓W_bo, ↓W_eand, ↓W_eor, ↓W_enot, ↓W_ink, ↓W_eneg, ↓W_snil, ↓W_seq, ↓W_asg, ↓W_asg1, ↓W_asg2, ↓W_asg3, ↓W_ret, ↓W_hand1, ↓W_hand2, ↓W_hand3, ↓W_hand4, ↓W_expr, ↓W_if, ↓W_for, ↓W_any, ↓W_it1, ↓W_it2, ↓W_it3, ↓W_rg1, ↓W_lc, ↓W_bn, ↓W_yes, ↓W_ownK, ↓W_mut, ↓W_app, ↓W_ins, ↓W_setK, ↓W_stK, ↓W_setIx, ↓W_strK, ↓W_upper, ↓W_join1, ↓W_start, ↓W_slot1, ↓W_slot2, ↓W_arg1, ↓W_arg2, ↓W_sFrz, ↓W_strb, endsD, wipeE, List.foldr_cons, List.foldr_nil, List.length_cons, List.length_nil, List.map_cons, List.map_nil, List.cons_append, List.nil_append, List.append_nil, List.replicate, List.getElem?_cons_zero, List.getElem?_cons_succ, List.getElem?_nil, List.set_cons_zero, List.set_cons_succ, Nat.reduceAdd, Nat.reduceSub, Nat.zero_add, if_true, if_false, Bool.false_eq_true, Bool.not_true, Bool.not_false, true_and, and_true, List.forall_mem_cons, List.mem_cons, List.not_mem_nil, or_false, forall_eq_or_imp, forall_eq, false_and, and_false, implies_true, false_or, Option.map_some, Option.map_none, ite_self, Bool.and_true, Bool.true_and, Bool.and_false, Bool.false_and, List.forall_mem_nil, decide_true, decide_false, isNonD, signsD]
      refine atK_at e3 ?_
      simp -dsimp only [↓W_var, ↓W_var1, ↓W_var2, ↓W_var3, ↓W_c, ↓W_frz, ↓W_frz1, ↓W_frz2, ↓W_frz3, ↓W_frz4, ↓W_op, ↓W_call, ↓W_fn, ↓W_fn0, ↓W_fnK, ↓W_nil, ↓W_cons, ↓W_add1, ↓W_add2, ↓W_add3, ↓W_add4, ↓W_add5, ↓W_add6, ↓W_add7, ↓W_int, ↓W_int0, ↓W_mul1, ↓W_mul2, ↓W_eq1, ↓W_eq2, ↓W_eq3, ↓W_eq4, ↓W_ne1, ↓W_ne2, ↓W_ne3, ↓W_in1, ↓W_in2, ↓W_in3, ↓W_in4, ↓W_in5, ↓W_is1, ↓W_is2, ↓W_at, ↓W_atS, ↓W_ix1, ↓W_ix2, ↓W_ix3, ↓W_ix4, ↓W_sl, ↓W_on, ↓W_os, ↓W_part, ↓W_sl1, ↓W_sl2, ↓W_sl3, ↓W_sl4, ↓W_len1, ↓W_len2, ↓W_len3, ↓W_len4, ↓W_abs, ↓W_intf, ↓W_strf, ↓W_list1, ↓W_list2, ↓W_list3, ↓W_tup1, ↓W_tup2, ↓W_tup3, ↓W_max, ↓W_min, ↓W_allK, ↓W_all1, ↓W_isi1, ↓W_isi2, ↓W_k_ns, ↓W_k_bs, ↓W_k_is, ↓W_k_ss, ↓W_k_ts, ↓W_k_ls, ↓W_k_nb, ↓W_k_bb, ↓W_k_ib, ↓W_k_sb, ↓W_k_tb, ↓W_k_lb, ↓W_k_ni, ↓W_k_bi, ↓W_k_ii, ↓W_k_si, ↓W_k_ti, ↓W_k_li, ↓W_k_nt, ↓W_k_bt, ↓W_k_it, ↓W_k_st, ↓W_k_tt, ↓W_k_lt, ↓W_k_nl, ↓W_k_bl, ↓W_k_il, ↓W_k_sl, ↓W_k_tl, ↓W_k_ll, ↓W_valsK, ↓W_etup, ↓W_elst, ↓W_vals0, ↓W_vals1, ↓W_bool, ↓W_bool1, ↓W_tand, ↓W_tor, ↓W_tnot, ↓W_tru, ↓W_tru1, ↓W_tru2, ↓W_tru3, ↓W_tru4, ↓W_tru5, ↓W_tru6, ↓W_tru7, ↓W_bo, ↓W_eand, ↓W_eor, ↓W_enot, ↓W_ink, ↓W_eneg, ↓W_snil, ↓W_seq, ↓W_asg, ↓W_asg1, ↓W_asg2, ↓W_asg3, ↓W_ret, ↓W_hand1, ↓W_hand2, ↓W_hand3, ↓W_hand4, ↓W_expr, ↓W_if, ↓W_for, ↓W_any, ↓W_it1, ↓W_it2, ↓W_it3, ↓W_rg1, ↓W_lc, ↓W_bn, ↓W_yes, ↓W_ownK, ↓W_mut, ↓W_app, ↓W_ins, ↓W_setK, ↓W_stK, ↓W_setIx, ↓W_strK, ↓W_upper, ↓W_join1, ↓W_start, ↓W_slot1, ↓W_slot2, ↓W_arg1, ↓W_arg2, ↓W_sFrz, ↓W_strb, endsD, wipeE, List.foldr_cons, List.foldr_nil, List.length_cons, List.length_nil, List.map_cons, List.map_nil, List.cons_append, List.nil_append, List.append_nil, List.replicate, List.getElem?_cons_zero, List.getElem?_cons_succ, List.getElem?_nil, List.set_cons_zero, List.set_cons_succ, Nat.reduceAdd, Nat.reduceSub, Nat.zero_add, if_true, if_false, Bool.false_eq_true, Bool.not_true, Bool.not_false, true_and, and_true, List.forall_mem_cons, List.mem_cons, List.not_mem_nil, or_false, forall_eq_or_imp, forall_eq, false_and, and_false, implies_true, false_or, Option.map_some, Option.map_none, ite_self, Bool.and_true, Bool.true_and, Bool.and_false, Bool.false_and, List.forall_mem_nil, decide_true, decide_false, isNonD, signsD]
      refine same_of trivial rfl ?_
      simp -dsimp only [↓W_var, ↓W_var1, ↓W_var2, ↓W_var3, ↓W_c, ↓W_frz, ↓W_frz1, ↓W_frz2, ↓W_frz3, ↓W_frz4, ↓W_op, ↓W_call, ↓W_fn, ↓W_fn0, ↓W_fnK, ↓W_nil, ↓W_cons, ↓W_add1, ↓W_add2, ↓W_add3, ↓W_add4, ↓W_add5, ↓W_add6, ↓W_add7, ↓W_int, ↓W_int0, ↓W_mul1, ↓W_mul2, ↓W_eq1, ↓W_eq2, ↓W_eq3, ↓W_eq4, ↓W_ne1, ↓W_ne2, ↓W_ne3, ↓W_in1, ↓W_in2, ↓W_in3, ↓W_in4, ↓W_in5, ↓W_is1, ↓W_is2, ↓W_at, ↓W_atS, ↓W_ix1, ↓W_ix2, ↓W_ix3, ↓W_ix4, ↓W_sl, ↓W_on, ↓W_os, ↓W_part, ↓W_sl1, ↓W_sl2, ↓W_sl3, ↓W_sl4, ↓W_len1, ↓W_len2, ↓W_len3, ↓W_len4, ↓W_abs, ↓W_intf, ↓W_strf, ↓W_list1, ↓W_list2, ↓W_list3, ↓W_tup1, ↓W_tup2, ↓W_tup3, ↓W_max, ↓W_min, ↓W_allK, ↓W_all1, ↓W_isi1, ↓W_isi2, ↓W_k_ns, ↓W_k_bs, ↓W_k_is, ↓W_k_ss, ↓W_k_ts, ↓W_k_ls, ↓W_k_nb, ↓W_k_bb, ↓W_k_ib, ↓W_k_sb, ↓W_k_tb, ↓W_k_lb, ↓W_k_ni, ↓W_k_bi, ↓W_k_ii, ↓W_k_si, ↓W_k_ti, ↓W_k_li, ↓W_k_nt, ↓W_k_bt, ↓W_k_it, ↓W_k_st, ↓W_k_tt, ↓W_k_lt, ↓W_k_nl, ↓W_k_bl, ↓W_k_il, ↓W_k_sl, ↓W_k_tl, ↓W_k_ll, ↓W_valsK, ↓W_etup, ↓W_elst, ↓W_vals0, ↓W_vals1, ↓W_bool, ↓W_bool1, ↓W_tand, ↓W_tor, ↓W_tnot, ↓W_tru, ↓W_tru1, ↓W_tru2, ↓W_tru3, ↓W_tru4, ↓W_tru5, ↓W_tru6, ↓W_tru7, ↓W_bo, ↓W_eand, ↓W_eor, ↓W_enot, ↓W_ink, ↓W_eneg, ↓W_snil, ↓W_seq, ↓W_asg, ↓W_asg1, ↓W_asg2, ↓W_asg3, ↓W_ret, ↓W_hand1, ↓W_hand2, ↓W_hand3, ↓W_hand4, ↓W_expr, ↓W_if, ↓W_for, ↓W_any, ↓W_it1, ↓W_it2, ↓W_it3, ↓W_rg1, ↓W_lc, ↓W_bn, ↓W_yes, ↓W_ownK, ↓W_mut, ↓W_app, ↓W_ins, ↓W_setK, ↓W_stK, ↓W_setIx, ↓W_strK, ↓W_upper, ↓W_join1, ↓W_start, ↓W_slot1, ↓W_slot2, ↓W_arg1, ↓W_arg2, ↓W_sFrz, ↓W_strb, endsD, wipeE, List.foldr_cons, List.foldr_nil, List.length_cons, List.length_nil, List.map_cons, List.map_nil, List.cons_append, List.nil_append, List.append_nil, List.replicate, List.getElem?_cons_zero, List.getElem?_cons_succ, List.getElem?_nil, List.set_cons_zero, List.set_cons_succ, Nat.reduceAdd, Nat.reduceSub, Nat.zero_add, if_true, if_false, Bool.false_eq_true, Bool.not_true, Bool.not_false, true_and, and_true, List.forall_mem_cons, List.mem_cons, List.not_mem_nil, or_false, forall_eq_or_imp, forall_eq, false_and, and_false, implies_true, false_or, Option.map_some, Option.map_none, ite_self, Bool.and_true, Bool.true_and, Bool.and_false, Bool.false_and, List.forall_mem_nil, decide_true, decide_false, isNonD, signsD]
      refine atK_at e2 ?_
      simp -dsimp only [↓W_var, ↓W_var1, ↓W_var2, ↓W_var3, ↓W_c, ↓W_frz, ↓W_frz1, ↓W_frz2, ↓W_frz3, ↓W_frz4, ↓W_op, ↓W_call, ↓W_fn, ↓W_fn0, ↓W_fnK, ↓W_nil, ↓W_cons, ↓W_add1, ↓W_add2, ↓W_add3, ↓W_add4, ↓W_add5, ↓W_add6, ↓W_add7, ↓W_int, ↓W_int0, ↓W_mul1, ↓W_mul2, ↓W_eq1, ↓W_eq2, ↓W_eq3, ↓W_eq4, ↓W_ne1, ↓W_ne2, ↓W_ne3, ↓W_in1, ↓W_in2, ↓W_in3, ↓W_in4, ↓W_in5, ↓W_is1, ↓W_is2, ↓W_at, ↓W_atS, ↓W_ix1, ↓W_ix2, ↓W_ix3, ↓W_ix4, ↓W_sl, ↓W_on, ↓W_os, ↓W_part, ↓W_sl1, ↓W_sl2, ↓W_sl3, ↓W_sl4, ↓W_len1, ↓W_len2, ↓W_len3, ↓W_len4, ↓W_abs, ↓W_intf, ↓W_strf, ↓W_list1, ↓W_list2, ↓W_list3, ↓W_tup1, ↓W_tup2, ↓W_tup3, ↓W_max, ↓W_min, ↓W_allK, ↓W_all1, ↓W_isi1, ↓W_isi2, ↓W_k_ns, ↓W_k_bs, ↓W_k_is, ↓W_k_ss, ↓W_k_ts, ↓W_k_ls, ↓W_k_nb, ↓W_k_bb, ↓W_k_ib, ↓W_k_sb, ↓W_k_tb, ↓W_k_lb, ↓W_k_ni, ↓W_k_bi, ↓W_k_ii, ↓W_k_si, ↓W_k_ti, ↓W_k_li, ↓W_k_nt, ↓W_k_bt, ↓W_k_it, ↓W_k_st, ↓W_k_tt, ↓W_k_lt, ↓W_k_nl, ↓W_k_bl, ↓W_k_il, ↓W_k_sl, ↓W_k_tl, ↓W_k_ll, ↓W_valsK, ↓W_etup, ↓W_elst, ↓W_vals0, ↓W_vals1, ↓W_bool, ↓W_bool1, ↓W_tand, ↓W_tor, ↓W_tnot, ↓W_tru, ↓W_tru1, ↓W_tru2, ↓W_tru3, ↓W_tru4, ↓W_tru5, ↓W_tru6, ↓W_tru7, ↓W_bo, ↓W_eand, ↓W_eor, ↓W_enot, ↓W_ink, ↓W_eneg, ↓W_snil, ↓W_seq, ↓W_asg, ↓W_asg1, ↓W_asg2, ↓W_asg3, ↓W_ret, ↓W_hand1, ↓W_hand2, ↓W_hand3, ↓W_hand4, ↓W_expr, ↓W_if, ↓W_for, ↓W_any, ↓W_it1, ↓W_it2, ↓W_it3, ↓W_rg1, ↓W_lc, ↓W_bn, ↓W_yes, ↓W_ownK, ↓W_mut, ↓W_app, ↓W_ins, ↓W_setK, ↓W_stK, ↓W_setIx, ↓W_strK, ↓W_upper, ↓W_join1, ↓W_start, ↓W_slot1, ↓W_slot2, ↓W_arg1, ↓W_arg2, ↓W_sFrz, ↓W_strb, endsD, wipeE, List.foldr_cons, List.foldr_nil, List.length_cons, List.length_nil, List.map_cons, List.map_nil, List.cons_append, List.nil_append, List.append_nil, List.replicate, List.getElem?_cons_zero, List.getElem?_cons_succ, List.getElem?_nil, List.set_cons_zero, List.set_cons_succ, Nat.reduceAdd, Nat.reduceSub, Nat.zero_add, if_true, if_false, Bool.false_eq_true, Bool.not_true, Bool.not_false, true_and, and_true, List.forall_mem_cons, List.mem_cons, List.not_mem_nil, or_false, forall_eq_or_imp, forall_eq, false_and, and_false, implies_true, false_or, Option.map_some, Option.map_none, ite_self, Bool.and_true, Bool.true_and, Bool.and_false, Bool.false_and, List.forall_mem_nil, decide_true, decide_false, isNonD, signsD]
      refine isn_of (deep_ask a2.1) ?_
      simp -dsimp only [↓W_var, ↓W_var1, ↓W_var2, ↓W_var3, ↓W_c, ↓W_frz, ↓W_frz1, ↓W_frz2, ↓W_frz3, ↓W_frz4, ↓W_op, ↓W_call, ↓W_fn, ↓W_fn0, ↓W_fnK, ↓W_nil, ↓W_cons, ↓W_add1, ↓W_add2, ↓W_add3, ↓W_add4, ↓W_add5, ↓W_add6, ↓W_add7, ↓W_int, ↓W_int0, ↓W_mul1, ↓W_mul2, ↓W_eq1, ↓W_eq2, ↓W_eq3, ↓W_eq4, ↓W_ne1, ↓W_ne2, ↓W_ne3, ↓W_in1, ↓W_in2, ↓W_in3, ↓W_in4, ↓W_in5, ↓W_is1, ↓W_is2, ↓W_at, ↓W_atS, ↓W_ix1, ↓W_ix2, ↓W_ix3, ↓W_ix4, ↓W_sl, ↓W_on, ↓W_os, ↓W_part, ↓W_sl1, ↓W_sl2, ↓W_sl3, ↓W_sl4, ↓W_len1, ↓W_len2, ↓W_len3, ↓W_len4, ↓W_abs, ↓W_intf, ↓W_strf, ↓W_list1, ↓W_list2, ↓W_list3, ↓W_tup1, ↓W_tup2, ↓W_tup3, ↓W_max, ↓W_min, ↓W_allK, ↓W_all1, ↓W_isi1, ↓W_isi2, ↓W_k_ns, ↓W_k_bs, ↓W_k_is, ↓W_k_ss, ↓W_k_ts, ↓W_k_ls, ↓W_k_nb, ↓W_k_bb, ↓W_k_ib, ↓W_k_sb, ↓W_k_tb, ↓W_k_lb, ↓W_k_ni, ↓W_k_bi, ↓W_k_ii, ↓W_k_si, ↓W_k_ti, ↓W_k_li, ↓W_k_nt, ↓W_k_bt, ↓W_k_it, ↓W_k_st, ↓W_k_tt, ↓W_k_lt, ↓W_k_nl, ↓W_k_bl, ↓W_k_il, ↓W_k_sl, ↓W_k_tl, ↓W_k_ll, ↓W_valsK, ↓W_etup, ↓W_elst, ↓W_vals0, ↓W_vals1, ↓W_bool, ↓W_bool1, ↓W_tand, ↓W_tor, ↓W_tnot, ↓W_tru, ↓W_tru1, ↓W_tru2, ↓W_tru3, ↓W_tru4, ↓W_tru5, ↓W_tru6, ↓W_tru7, ↓W_bo, ↓W_eand, ↓W_eor, ↓W_enot, ↓W_ink, ↓W_eneg, ↓W_snil, ↓W_seq, ↓W_asg, ↓W_asg1, ↓W_asg2, ↓W_asg3, ↓W_ret, ↓W_hand1, ↓W_hand2, ↓W_hand3, ↓W_hand4, ↓W_expr, ↓W_if, ↓W_for, ↓W_any, ↓W_it1, ↓W_it2, ↓W_it3, ↓W_rg1, ↓W_lc, ↓W_bn, ↓W_yes, ↓W_ownK, ↓W_mut, ↓W_app, ↓W_ins, ↓W_setK, ↓W_stK, ↓W_setIx, ↓W_strK, ↓W_upper, ↓W_join1, ↓W_start, ↓W_slot1, ↓W_slot2, ↓W_arg1, ↓W_arg2, ↓W_sFrz, ↓W_strb, endsD, wipeE, List.foldr_cons, List.foldr_nil, List.length_cons, List.length_nil, List.map_cons, List.map_nil, List.cons_append, List.nil_append, List.append_nil, List.replicate, List.getElem?_cons_zero, List.getElem?_cons_succ, List.getElem?_nil, List.set_cons_zero, List.set_cons_succ, Nat.reduceAdd, Nat.reduceSub, Nat.zero_add, if_true, if_false, Bool.false_eq_true, Bool.not_true, Bool.not_false, true_and, and_true, List.forall_mem_cons, List.mem_cons, List.not_mem_nil, or_false, forall_eq_or_imp, forall_eq, false_and, and_false, implies_true, false_or, Option.map_some, Option.map_none, ite_self, Bool.and_true, Bool.true_and, Bool.and_false, Bool.false_and, List.forall_mem_nil, decide_true, decide_false, isNonD, signsD]
      refine same_of trivial rfl ?_
      simp -dsimp only [↓W_var, ↓W_var1, ↓W_var2, ↓W_var3, ↓W_c, ↓W_frz, ↓W_frz1, ↓W_frz2, ↓W_frz3, ↓W_frz4, ↓W_op, ↓W_call, ↓W_fn, ↓W_fn0, ↓W_fnK, ↓W_nil, ↓W_cons, ↓W_add1, ↓W_add2, ↓W_add3, ↓W_add4, ↓W_add5, ↓W_add6, ↓W_add7, ↓W_int, ↓W_int0, ↓W_mul1, ↓W_mul2, ↓W_eq1, ↓W_eq2, ↓W_eq3, ↓W_eq4, ↓W_ne1, ↓W_ne2, ↓W_ne3, ↓W_in1, ↓W_in2, ↓W_in3, ↓W_in4, ↓W_in5, ↓W_is1, ↓W_is2, ↓W_at, ↓W_atS, ↓W_ix1, ↓W_ix2, ↓W_ix3, ↓W_ix4, ↓W_sl, ↓W_on, ↓W_os, ↓W_part, ↓W_sl1, ↓W_sl2, ↓W_sl3, ↓W_sl4, ↓W_len1, ↓W_len2, ↓W_len3, ↓W_len4, ↓W_abs, ↓W_intf, ↓W_strf, ↓W_list1, ↓W_list2, ↓W_list3, ↓W_tup1, ↓W_tup2, ↓W_tup3, ↓W_max, ↓W_min, ↓W_allK, ↓W_all1, ↓W_isi1, ↓W_isi2, ↓W_k_ns, ↓W_k_bs, ↓W_k_is, ↓W_k_ss, ↓W_k_ts, ↓W_k_ls, ↓W_k_nb, ↓W_k_bb, ↓W_k_ib, ↓W_k_sb, ↓W_k_tb, ↓W_k_lb, ↓W_k_ni, ↓W_k_bi, ↓W_k_ii, ↓W_k_si, ↓W_k_ti, ↓W_k_li, ↓W_k_nt, ↓W_k_bt, ↓W_k_it, ↓W_k_st, ↓W_k_tt, ↓W_k_lt, ↓W_k_nl, ↓W_k_bl, ↓W_k_il, ↓W_k_sl, ↓W_k_tl, ↓W_k_ll, ↓W_valsK, ↓W_etup, ↓W_elst, ↓W_vals0, ↓W_vals1, ↓W_bool, ↓W_bool1, ↓W_tand, ↓W_tor, ↓W_tnot, ↓W_tru, ↓W_tru1, ↓W_tru2, ↓W_tru3, ↓W_tru4, ↓W_tru5, ↓W_tru6, ↓W_tru7, ↓W_bo, ↓W_eand, ↓W_eor, ↓W_enot, ↓W_ink, ↓W_eneg, ↓W_snil, ↓W_seq, ↓W_asg, ↓W_asg1, ↓W_asg2, ↓W_asg3, ↓W_ret, ↓W_hand1, ↓W_hand2, ↓W_hand3, ↓W_hand4, ↓W_expr, ↓W_if, ↓W_for, ↓W_any, ↓W_it1, ↓W_it2, ↓W_it3, ↓W_rg1, ↓W_lc, ↓W_bn, ↓W_yes, ↓W_ownK, ↓W_mut, ↓W_app, ↓W_ins, ↓W_setK, ↓W_stK, ↓W_setIx, ↓W_strK, ↓W_upper, ↓W_join1, ↓W_start, ↓W_slot1, ↓W_slot2, ↓W_arg1, ↓W_arg2, ↓W_sFrz, ↓W_strb, endsD, wipeE, List.foldr_cons, List.foldr_nil, List.length_cons, List.length_nil, List.map_cons, List.map_nil, List.cons_append, List.nil_append, List.append_nil, List.replicate, List.getElem?_cons_zero, List.getElem?_cons_succ, List.getElem?_nil, List.set_cons_zero, List.set_cons_succ, Nat.reduceAdd, Nat.reduceSub, Nat.zero_add, if_true, if_false, Bool.false_eq_true, Bool.not_true, Bool.not_false, true_and, and_true, List.forall_mem_cons, List.mem_cons, List.not_mem_nil, or_false, forall_eq_or_imp, forall_eq, false_and, and_false, implies_true, false_or, Option.map_some, Option.map_none, ite_self, Bool.and_true, Bool.true_and, Bool.and_false, Bool.false_and, List.forall_mem_nil, decide_true, decide_false, isNonD, signsD]
      exact hN _ ⟨_, _, rfl⟩
    case B =>
      subst e
      simp -dsimp only [↓W_var, ↓W_var1, ↓W_var2, ↓W_var3, ↓W_c, ↓W_frz, ↓W_frz1, ↓W_frz2, ↓W_frz3, ↓W_frz4, ↓W_op, ↓W_call, ↓W_fn, ↓W_fn0, ↓W_fnK, ↓W_nil, ↓W_cons, ↓W_add1, ↓W_add2, ↓W_add3, ↓W_add4, ↓W_add5, ↓W_add6, ↓W_add7, ↓W_int, ↓W_int0, ↓W_mul1, ↓W_mul2, ↓W_eq1, ↓W_eq2, ↓W_eq3, ↓W_eq4, ↓W_ne1, ↓W_ne2, ↓W_ne3, ↓W_in1, ↓W_in2, ↓W_in3, ↓W_in4, ↓W_in5, ↓W_is1, ↓W_is2, ↓W_at, ↓W_atS, ↓W_ix1, ↓W_ix2, ↓W_ix3, ↓W_ix4, ↓W_sl, ↓W_on, ↓W_os, ↓W_part, ↓W_sl1, ↓W_sl2, ↓W_sl3, ↓W_sl4, ↓W_len1, ↓W_len2, ↓W_len3, ↓W_len4, ↓W_abs, ↓W_intf, ↓W_strf, ↓W_list1, ↓W_list2, ↓W_list3, ↓W_tup1, ↓W_tup2, ↓W_tup3, ↓W_max, ↓W_min, ↓W_allK, ↓W_all1, ↓W_isi1, ↓W_isi2, ↓W_k_ns, ↓W_k_bs, ↓W_k_is, ↓W_k_ss, ↓W_k_ts, ↓W_k_ls, ↓W_k_nb, ↓W_k_bb, ↓W_k_ib, ↓W_k_sb, ↓W_k_tb, ↓W_k_lb, ↓W_k_ni, ↓W_k_bi, ↓W_k_ii, ↓W_k_si, ↓W_k_ti, ↓W_k_li, ↓W_k_nt, ↓W_k_bt, ↓W_k_it, ↓W_k_st, ↓W_k_tt, ↓W_k_lt, ↓W_k_nl, ↓W_k_bl, ↓W_k_il, ↓W_k_sl, ↓W_k_tl, ↓W_k_ll, ↓W_valsK, ↓W_etup, ↓W_elst, ↓W_vals0, ↓W_vals1, ↓W_bool, ↓W_bool1, ↓W_tand, ↓W_tor, ↓W_tnot, ↓W_tru, ↓W_tru1, ↓W_tru2, ↓W_tru3, ↓W_tru4, ↓W_tru5, ↓W_tru6, ↓W_tru7, ↓W_bo, ↓W_eand, ↓W_eor, ↓W_enot, ↓W_ink, ↓W_eneg, ↓W_snil, ↓W_seq, ↓W_asg, ↓W_asg1, ↓W_asg2, ↓W_asg3, ↓W_ret, ↓W_hand1, ↓W_hand2, ↓W_hand3, ↓W_hand4, ↓W_expr, ↓W_if, ↓W_for, ↓W_any, ↓W_it1, ↓W_it2, ↓W_it3, ↓W_rg1, ↓W_lc, ↓W_bn, ↓W_yes, ↓W_ownK, ↓W_mut, ↓W_app, ↓W_ins, ↓W_setK, ↓W_stK, ↓W_setIx, ↓W_strK, ↓W_upper, ↓W_join1, ↓W_start, ↓W_slot1, ↓W_slot2, ↓W_arg1, ↓W_arg2, ↓W_sFrz, ↓W_strb, endsD, wipeE, List.foldr_cons, List.foldr_nil, List.length_cons, List.length_nil, List.map_cons, List.map_nil, List.cons_append, List.nil_append, List.append_nil, List.replicate, List.getElem?_cons_zero, List.getElem?_cons_succ, List.getElem?_nil, List.set_cons_zero, List.set_cons_succ, Nat.reduceAdd, Nat.reduceSub, Nat.zero_add, if_true, if_false, Bool.false_eq_true, Bool.not_true, Bool.not_false, true_and, and_true, List.forall_mem_cons, List.mem_cons, List.not_mem_nil, or_false, forall_eq_or_imp, forall_eq, false_and, and_false, implies_true, false_or, Option.map_some, Option.map_none, ite_self, Bool.and_true, Bool.true_and, Bool.and_false, Bool.false_and, List.forall_mem_nil, decide_true, decide_false, isNonD, signsD]
      refine same_of ⟨by omega, fun e me => (hm e me).1⟩ rfl ?_
      simp -dsimp only [↓W_var, ↓W_var1, ↓W_var2, ↓W_var3, ↓W_c, ↓W_frz, ↓W_frz1, ↓W_frz2, ↓W_frz3, ↓W_frz4, ↓W_op, ↓W_call, ↓W_fn, ↓W_fn0, ↓W_fnK, ↓W_nil, ↓W_cons, ↓W_add1, ↓W_add2, ↓W_add3, ↓W_add4, ↓W_add5, ↓W_add6, ↓W_add7, ↓W_int, ↓W_int0, ↓W_mul1, ↓W_mul2, ↓W_eq1, ↓W_eq2, ↓W_eq3, ↓W_eq4, ↓W_ne1, ↓W_ne2, ↓W_ne3, ↓W_in1, ↓W_in2, ↓W_in3, ↓W_in4, ↓W_in5, ↓W_is1, ↓W_is2, ↓W_at, ↓W_atS, ↓W_ix1, ↓W_ix2, ↓W_ix3, ↓W_ix4, ↓W_sl, ↓W_on, ↓W_os, ↓W_part, ↓W_sl1, ↓W_sl2, ↓W_sl3, ↓W_sl4, ↓W_len1, ↓W_len2, ↓W_len3, ↓W_len4, ↓W_abs, ↓W_intf, ↓W_strf, ↓W_list1, ↓W_list2, ↓W_list3, ↓W_tup1, ↓W_tup2, ↓W_tup3, ↓W_max, ↓W_min, ↓W_allK, ↓W_all1, ↓W_isi1, ↓W_isi2, ↓W_k_ns, ↓W_k_bs, ↓W_k_is, ↓W_k_ss, ↓W_k_ts, ↓W_k_ls, ↓W_k_nb, ↓W_k_bb, ↓W_k_ib, ↓W_k_sb, ↓W_k_tb, ↓W_k_lb, ↓W_k_ni, ↓W_k_bi, ↓W_k_ii, ↓W_k_si, ↓W_k_ti, ↓W_k_li, ↓W_k_nt, ↓W_k_bt, ↓W_k_it, ↓W_k_st, ↓W_k_tt, ↓W_k_lt, ↓W_k_nl, ↓W_k_bl, ↓W_k_il, ↓W_k_sl, ↓W_k_tl, ↓W_k_ll, ↓W_valsK, ↓W_etup, ↓W_elst, ↓W_vals0, ↓W_vals1, ↓W_bool, ↓W_bool1, ↓W_tand, ↓W_tor, ↓W_tnot, ↓W_tru, ↓W_tru1, ↓W_tru2, ↓W_tru3, ↓W_tru4, ↓W_tru5, ↓W_tru6, ↓W_tru7, ↓W_bo, ↓W_eand, ↓W_eor, ↓W_enot, ↓W_ink, ↓W_eneg, ↓W_snil, ↓W_seq, ↓W_asg, ↓W_asg1, ↓W_asg2, ↓W_asg3, ↓W_ret, ↓W_hand1, ↓W_hand2, ↓W_hand3, ↓W_hand4, ↓W_expr, ↓W_if, ↓W_for, ↓W_any, ↓W_it1, ↓W_it2, ↓W_it3, ↓W_rg1, ↓W_lc, ↓W_bn, ↓W_yes, ↓W_ownK, ↓W_mut, ↓W_app, ↓W_ins, ↓W_setK, ↓W_stK, ↓W_setIx, ↓W_strK, ↓W_upper, ↓W_join1, ↓W_start, ↓W_slot1, ↓W_slot2, ↓W_arg1, ↓W_arg2, ↓W_sFrz, ↓W_strb, endsD, wipeE, List.foldr_cons, List.foldr_nil, List.length_cons, List.length_nil, List.map_cons, List.map_nil, List.cons_append, List.nil_append, List.append_nil, List.replicate, List.getElem?_cons_zero, List.getElem?_cons_succ, List.getElem?_nil, List.set_cons_zero, List.set_cons_succ, Nat.reduceAdd, Nat.reduceSub, Nat.zero_add, if_true, if_false, Bool.false_eq_true, Bool.not_true, Bool.not_false, true_and, and_true, List.forall_mem_cons, List.mem_cons, List.not_mem_nil, or_false, forall_eq_or_imp, forall_eq, false_and, and_false, implies_true, false_or, Option.map_some, Option.map_none, ite_self, Bool.and_true, Bool.true_and, Bool.and_false, Bool.false_and, List.forall_mem_nil, decide_true, decide_false, isNonD, signsD]
      subst hA
      intro F3 σ3 H3 e3 ok3
      obtain ⟨v, hv3, rv⟩ := ok3.val 3 _ rfl
      simp only [Rep] at rv
      obtain ⟨I, ivs, rfl, hI, rI⟩ := rv
      have rI0 := but_of ok3.fh ok3.sto.free
      refine ⟨_, hv3, I, rfl, ⟨_, .inl (.inl (ok3.fh _ _ hI))⟩, for_list (a := I) (xs := ivs) (fun i σ H => σ.length = 10 ∧ TailI K st I ivs i H) ⟨ok3.len, (ok3.sto.to rI0 rfl but_st).any, rI0 _ _ hI, items, rI.mono rI0, fun e me => itemV_of (hm e me).1 (hm e me).2⟩ (fun i σ H _ q => ?C) (fun i x σ H hx q => ?D) (fun σ H q => ?E)⟩
      case C => exact .inl (.inl (but_ex _ _ q.2.it))
      case E => exact hq _
      case D =>
        obtain ⟨hlen, q⟩ := q
        obtain ⟨d, hd, rd⟩ := q.at' hx
        have hσ8 : (σ.set 8 (some x))[8]? = some (some x) := List.getElem?_set_self (by omega)
        have hi8 : i < ivs.length := (List.getElem?_eq_some_iff.mp hx).1
        have hiv := rI.length
        refine ⟨x, hσ8, ?_⟩
        refine near_run q hx hd rd (by omega) (fun F' H' qa us es c1 c2 c3 c4 c5 c6 c7 c8 => ?_)
        have c0 := but_of c1 c2.free
        have k1 : but st H' qa = some (.lst us) := by rw [but_ne c3]; exact c4
        refine ⟨qa, rfl, ⟨us, .inl (.inl c4)⟩, for_list (a := qa) (xs := us) (fun j σ H2 => σ.length = 10 ∧ ∃ F2, StoreAt K st 0 F2 H2 ∧ Evl.Ex F2 H2 ∧ Evl.Ex (but st H') F2) ⟨(List.length_set (as := σ) (i := 8) (a := some x)).trans hlen, but st H', (c2.to c0 rfl but_st).any, but_ex, Evl.Ex.refl _⟩ (fun j σ H2 _ q2 => ?F) (fun j y σ H2 hy q2 => ?G) (fun σ H2 q2 => ?K)⟩
        case F =>
          obtain ⟨_, F2, f1, f2, f3⟩ := q2
          exact .inl (.inl (f2 _ _ (f3 _ _ k1)))
        case K =>
          obtain ⟨l2, F2, f1, f2, f3⟩ := q2
          obtain ⟨ds, r1, r2⟩ := c8
          have f4 := but_of f2 f1.free
          have f5 := c0.trans (f3.trans f4)
          exact ⟨l2, (f1.to f4 rfl but_st).any, f5 _ _ c7, ds, r1.mono f5, r2⟩
        case G =>
          obtain ⟨l2, F2, f1, f2, f3⟩ := q2
          have hl5 := c5.length
          have hj : j < es.length := by
            have := (List.getElem?_eq_some_iff.mp hy).1
            omega
          have ej : es[j]? = some (es[j]'hj) := List.getElem?_eq_getElem hj
          obtain ⟨y', h1, ry⟩ := c5.get ej
          rw [hy] at h1
          cases h1
          have ask := c6 _ (List.getElem_mem hj)
          generalize es[j]'hj = e at ry ask
          have ok9 : Ok ⟨K, st, F2, H2⟩ 0 F2 [none, none, none, none, none, none, none, none, none, some (.val e)] (σ.set 9 (some y)) H2 := by
            have g0 : ∀ {i : Nat} {z : SV}, ([none, none, none, none, none, none, none, none, none, some (.val e)] : En)[i]? = some (some z) → i = 9 ∧ z = .val e := by
              intro i z q
              match i, q with
              | 9, q => exact ⟨rfl, by simpa using q.symm⟩
              | 0, q | 1, q | 2, q | 3, q | 4, q | 5, q | 6, q | 7, q | 8, q => simp at q
              | n + 10, q => simp at q
            refine ⟨Grow.refl f2 f1.free, f1, by rw [List.length_set]; exact l2, fun i d q => ?_, fun i q => ?_, fun i xs q => ?_, fun i j xs ys _ q => ?_⟩
            · obtain ⟨rfl, z⟩ := g0 q
              cases z
              exact ⟨y, List.getElem?_set_self (by omega), (ry.mono c0).mono f3⟩
            · exact nomatch (g0 q).2
            · exact nomatch (g0 q).2
            · exact nomatch (g0 q).2
          refine ⟨⟨K, st, F2, H2⟩, rfl, 0, F2, _, Nat.le_refl _, ok9, ?_⟩
          simp -dsimp only [↓W_var, ↓W_var1, ↓W_var2, ↓W_var3, ↓W_c, ↓W_frz, ↓W_frz1, ↓W_frz2, ↓W_frz3, ↓W_frz4, ↓W_op, ↓W_call, ↓W_fn, ↓W_fn0, ↓W_fnK, ↓W_nil, ↓W_cons, ↓W_add1, ↓W_add2, ↓W_add3, ↓W_add4, ↓W_add5, ↓W_add6, ↓W_add7, ↓W_int, ↓W_int0, ↓W_mul1, ↓W_mul2, ↓W_eq1, ↓W_eq2, ↓W_eq3, ↓W_eq4, ↓W_ne1, ↓W_ne2, ↓W_ne3, ↓W_in1, ↓W_in2, ↓W_in3, ↓W_in4, ↓W_in5, ↓W_is1, ↓W_is2, ↓W_at, ↓W_atS, ↓W_ix1, ↓W_ix2, ↓W_ix3, ↓W_ix4, ↓W_sl, ↓W_on, ↓W_os, ↓W_part, ↓W_sl1, ↓W_sl2, ↓W_sl3, ↓W_sl4, ↓W_len1, ↓W_len2, ↓W_len3, ↓W_len4, ↓W_abs, ↓W_intf, ↓W_strf, ↓W_list1, ↓W_list2, ↓W_list3, ↓W_tup1, ↓W_tup2, ↓W_tup3, ↓W_max, ↓W_min, ↓W_allK, ↓W_all1, ↓W_isi1, ↓W_isi2, ↓W_k_ns, ↓W_k_bs, ↓W_k_is, ↓W_k_ss, ↓W_k_ts, ↓W_k_ls, ↓W_k_nb, ↓W_k_bb, ↓W_k_ib, ↓W_k_sb, ↓W_k_tb, ↓W_k_lb, ↓W_k_ni, ↓W_k_bi, ↓W_k_ii, ↓W_k_si, ↓W_k_ti, ↓W_k_li, ↓W_k_nt, ↓W_k_bt, ↓W_k_it, ↓W_k_st, ↓W_k_tt, ↓W_k_lt, ↓W_k_nl, ↓W_k_bl, ↓W_k_il, ↓W_k_sl, ↓W_k_tl, ↓W_k_ll, ↓W_valsK, ↓W_etup, ↓W_elst, ↓W_vals0, ↓W_vals1, ↓W_bool, ↓W_bool1, ↓W_tand, ↓W_tor, ↓W_tnot, ↓W_tru, ↓W_tru1, ↓W_tru2, ↓W_tru3, ↓W_tru4, ↓W_tru5, ↓W_tru6, ↓W_tru7, ↓W_bo, ↓W_eand, ↓W_eor, ↓W_enot, ↓W_ink, ↓W_eneg, ↓W_snil, ↓W_seq, ↓W_asg, ↓W_asg1, ↓W_asg2, ↓W_asg3, ↓W_ret, ↓W_hand1, ↓W_hand2, ↓W_hand3, ↓W_hand4, ↓W_expr, ↓W_if, ↓W_for, ↓W_any, ↓W_it1, ↓W_it2, ↓W_it3, ↓W_rg1, ↓W_lc, ↓W_bn, ↓W_yes, ↓W_ownK, ↓W_mut, ↓W_app, ↓W_ins, ↓W_setK, ↓W_stK, ↓W_setIx, ↓W_strK, ↓W_upper, ↓W_join1, ↓W_start, ↓W_slot1, ↓W_slot2, ↓W_arg1, ↓W_arg2, ↓W_sFrz, ↓W_strb, endsD, wipeE, List.foldr_cons, List.foldr_nil, List.length_cons, List.length_nil, List.map_cons, List.map_nil, List.cons_append, List.nil_append, List.append_nil, List.replicate, List.getElem?_cons_zero, List.getElem?_cons_succ, List.getElem?_nil, List.set_cons_zero, List.set_cons_succ, Nat.reduceAdd, Nat.reduceSub, Nat.zero_add, if_true, if_false, Bool.false_eq_true, Bool.not_true, Bool.not_false, true_and, and_true, List.forall_mem_cons, List.mem_cons, List.not_mem_nil, or_false, forall_eq_or_imp, forall_eq, false_and, and_false, implies_true, false_or, Option.map_some, Option.map_none, ite_self, Bool.and_true, Bool.true_and, Bool.and_false, Bool.false_and, List.forall_mem_nil, decide_true, decide_false, isNonD, signsD]
          refine isn_of ask ?_
          simp -dsimp only [↓W_var, ↓W_var1, ↓W_var2, ↓W_var3, ↓W_c, ↓W_frz, ↓W_frz1, ↓W_frz2, ↓W_frz3, ↓W_frz4, ↓W_op, ↓W_call, ↓W_fn, ↓W_fn0, ↓W_fnK, ↓W_nil, ↓W_cons, ↓W_add1, ↓W_add2, ↓W_add3, ↓W_add4, ↓W_add5, ↓W_add6, ↓W_add7, ↓W_int, ↓W_int0, ↓W_mul1, ↓W_mul2, ↓W_eq1, ↓W_eq2, ↓W_eq3, ↓W_eq4, ↓W_ne1, ↓W_ne2, ↓W_ne3, ↓W_in1, ↓W_in2, ↓W_in3, ↓W_in4, ↓W_in5, ↓W_is1, ↓W_is2, ↓W_at, ↓W_atS, ↓W_ix1, ↓W_ix2, ↓W_ix3, ↓W_ix4, ↓W_sl, ↓W_on, ↓W_os, ↓W_part, ↓W_sl1, ↓W_sl2, ↓W_sl3, ↓W_sl4, ↓W_len1, ↓W_len2, ↓W_len3, ↓W_len4, ↓W_abs, ↓W_intf, ↓W_strf, ↓W_list1, ↓W_list2, ↓W_list3, ↓W_tup1, ↓W_tup2, ↓W_tup3, ↓W_max, ↓W_min, ↓W_allK, ↓W_all1, ↓W_isi1, ↓W_isi2, ↓W_k_ns, ↓W_k_bs, ↓W_k_is, ↓W_k_ss, ↓W_k_ts, ↓W_k_ls, ↓W_k_nb, ↓W_k_bb, ↓W_k_ib, ↓W_k_sb, ↓W_k_tb, ↓W_k_lb, ↓W_k_ni, ↓W_k_bi, ↓W_k_ii, ↓W_k_si, ↓W_k_ti, ↓W_k_li, ↓W_k_nt, ↓W_k_bt, ↓W_k_it, ↓W_k_st, ↓W_k_tt, ↓W_k_lt, ↓W_k_nl, ↓W_k_bl, ↓W_k_il, ↓W_k_sl, ↓W_k_tl, ↓W_k_ll, ↓W_valsK, ↓W_etup, ↓W_elst, ↓W_vals0, ↓W_vals1, ↓W_bool, ↓W_bool1, ↓W_tand, ↓W_tor, ↓W_tnot, ↓W_tru, ↓W_tru1, ↓W_tru2, ↓W_tru3, ↓W_tru4, ↓W_tru5, ↓W_tru6, ↓W_tru7, ↓W_bo, ↓W_eand, ↓W_eor, ↓W_enot, ↓W_ink, ↓W_eneg, ↓W_snil, ↓W_seq, ↓W_asg, ↓W_asg1, ↓W_asg2, ↓W_asg3, ↓W_ret, ↓W_hand1, ↓W_hand2, ↓W_hand3, ↓W_hand4, ↓W_expr, ↓W_if, ↓W_for, ↓W_any, ↓W_it1, ↓W_it2, ↓W_it3, ↓W_rg1, ↓W_lc, ↓W_bn, ↓W_yes, ↓W_ownK, ↓W_mut, ↓W_app, ↓W_ins, ↓W_setK, ↓W_stK, ↓W_setIx, ↓W_strK, ↓W_upper, ↓W_join1, ↓W_start, ↓W_slot1, ↓W_slot2, ↓W_arg1, ↓W_arg2, ↓W_sFrz, ↓W_strb, endsD, wipeE, List.foldr_cons, List.foldr_nil, List.length_cons, List.length_nil, List.map_cons, List.map_nil, List.cons_append, List.nil_append, List.append_nil, List.replicate, List.getElem?_cons_zero, List.getElem?_cons_succ, List.getElem?_nil, List.set_cons_zero, List.set_cons_succ, Nat.reduceAdd, Nat.reduceSub, Nat.zero_add, if_true, if_false, Bool.false_eq_true, Bool.not_true, Bool.not_false, true_and, and_true, List.forall_mem_cons, List.mem_cons, List.not_mem_nil, or_false, forall_eq_or_imp, forall_eq, false_and, and_false, implies_true, false_or, Option.map_some, Option.map_none, ite_self, Bool.and_true, Bool.true_and, Bool.and_false, Bool.false_and, List.forall_mem_nil, decide_true, decide_false, isNonD, signsD]
          refine due_of ask ?_
          simp -dsimp only [↓W_var, ↓W_var1, ↓W_var2, ↓W_var3, ↓W_c, ↓W_frz, ↓W_frz1, ↓W_frz2, ↓W_frz3, ↓W_frz4, ↓W_op, ↓W_call, ↓W_fn, ↓W_fn0, ↓W_fnK, ↓W_nil, ↓W_cons, ↓W_add1, ↓W_add2, ↓W_add3, ↓W_add4, ↓W_add5, ↓W_add6, ↓W_add7, ↓W_int, ↓W_int0, ↓W_mul1, ↓W_mul2, ↓W_eq1, ↓W_eq2, ↓W_eq3, ↓W_eq4, ↓W_ne1, ↓W_ne2, ↓W_ne3, ↓W_in1, ↓W_in2, ↓W_in3, ↓W_in4, ↓W_in5, ↓W_is1, ↓W_is2, ↓W_at, ↓W_atS, ↓W_ix1, ↓W_ix2, ↓W_ix3, ↓W_ix4, ↓W_sl, ↓W_on, ↓W_os, ↓W_part, ↓W_sl1, ↓W_sl2, ↓W_sl3, ↓W_sl4, ↓W_len1, ↓W_len2, ↓W_len3, ↓W_len4, ↓W_abs, ↓W_intf, ↓W_strf, ↓W_list1, ↓W_list2, ↓W_list3, ↓W_tup1, ↓W_tup2, ↓W_tup3, ↓W_max, ↓W_min, ↓W_allK, ↓W_all1, ↓W_isi1, ↓W_isi2, ↓W_k_ns, ↓W_k_bs, ↓W_k_is, ↓W_k_ss, ↓W_k_ts, ↓W_k_ls, ↓W_k_nb, ↓W_k_bb, ↓W_k_ib, ↓W_k_sb, ↓W_k_tb, ↓W_k_lb, ↓W_k_ni, ↓W_k_bi, ↓W_k_ii, ↓W_k_si, ↓W_k_ti, ↓W_k_li, ↓W_k_nt, ↓W_k_bt, ↓W_k_it, ↓W_k_st, ↓W_k_tt, ↓W_k_lt, ↓W_k_nl, ↓W_k_bl, ↓W_k_il, ↓W_k_sl, ↓W_k_tl, ↓W_k_ll, ↓W_valsK, ↓W_etup, ↓W_elst, ↓W_vals0, ↓W_vals1, ↓W_bool, ↓W_bool1, ↓W_tand, ↓W_tor, ↓W_tnot, ↓W_tru, ↓W_tru1, ↓W_tru2, ↓W_tru3, ↓W_tru4, ↓W_tru5, ↓W_tru6, ↓W_tru7, ↓W_bo, ↓W_eand, ↓W_eor, ↓W_enot, ↓W_ink, ↓W_eneg, ↓W_snil, ↓W_seq, ↓W_asg, ↓W_asg1, ↓W_asg2, ↓W_asg3, ↓W_ret, ↓W_hand1, ↓W_hand2, ↓W_hand3, ↓W_hand4, ↓W_expr, ↓W_if, ↓W_for, ↓W_any, ↓W_it1, ↓W_it2, ↓W_it3, ↓W_rg1, ↓W_lc, ↓W_bn, ↓W_yes, ↓W_ownK, ↓W_mut, ↓W_app, ↓W_ins, ↓W_setK, ↓W_stK, ↓W_setIx, ↓W_strK, ↓W_upper, ↓W_join1, ↓W_start, ↓W_slot1, ↓W_slot2, ↓W_arg1, ↓W_arg2, ↓W_sFrz, ↓W_strb, endsD, wipeE, List.foldr_cons, List.foldr_nil, List.length_cons, List.length_nil, List.map_cons, List.map_nil, List.cons_append, List.nil_append, List.append_nil, List.replicate, List.getElem?_cons_zero, List.getElem?_cons_succ, List.getElem?_nil, List.set_cons_zero, List.set_cons_succ, Nat.reduceAdd, Nat.reduceSub, Nat.zero_add, if_true, if_false, Bool.false_eq_true, Bool.not_true, Bool.not_false, true_and, and_true, List.forall_mem_cons, List.mem_cons, List.not_mem_nil, or_false, forall_eq_or_imp, forall_eq, false_and, and_false, implies_true, false_or, Option.map_some, Option.map_none, ite_self, Bool.and_true, Bool.true_and, Bool.and_false, Bool.false_and, List.forall_mem_nil, decide_true, decide_false, isNonD, signsD]
          refine same_of trivial rfl ?_
          simp -dsimp only [↓W_var, ↓W_var1, ↓W_var2, ↓W_var3, ↓W_c, ↓W_frz, ↓W_frz1, ↓W_frz2, ↓W_frz3, ↓W_frz4, ↓W_op, ↓W_call, ↓W_fn, ↓W_fn0, ↓W_fnK, ↓W_nil, ↓W_cons, ↓W_add1, ↓W_add2, ↓W_add3, ↓W_add4, ↓W_add5, ↓W_add6, ↓W_add7, ↓W_int, ↓W_int0, ↓W_mul1, ↓W_mul2, ↓W_eq1, ↓W_eq2, ↓W_eq3, ↓W_eq4, ↓W_ne1, ↓W_ne2, ↓W_ne3, ↓W_in1, ↓W_in2, ↓W_in3, ↓W_in4, ↓W_in5, ↓W_is1, ↓W_is2, ↓W_at, ↓W_atS, ↓W_ix1, ↓W_ix2, ↓W_ix3, ↓W_ix4, ↓W_sl, ↓W_on, ↓W_os, ↓W_part, ↓W_sl1, ↓W_sl2, ↓W_sl3, ↓W_sl4, ↓W_len1, ↓W_len2, ↓W_len3, ↓W_len4, ↓W_abs, ↓W_intf, ↓W_strf, ↓W_list1, ↓W_list2, ↓W_list3, ↓W_tup1, ↓W_tup2, ↓W_tup3, ↓W_max, ↓W_min, ↓W_allK, ↓W_all1, ↓W_isi1, ↓W_isi2, ↓W_k_ns, ↓W_k_bs, ↓W_k_is, ↓W_k_ss, ↓W_k_ts, ↓W_k_ls, ↓W_k_nb, ↓W_k_bb, ↓W_k_ib, ↓W_k_sb, ↓W_k_tb, ↓W_k_lb, ↓W_k_ni, ↓W_k_bi, ↓W_k_ii, ↓W_k_si, ↓W_k_ti, ↓W_k_li, ↓W_k_nt, ↓W_k_bt, ↓W_k_it, ↓W_k_st, ↓W_k_tt, ↓W_k_lt, ↓W_k_nl, ↓W_k_bl, ↓W_k_il, ↓W_k_sl, ↓W_k_tl, ↓W_k_ll, ↓W_valsK, ↓W_etup, ↓W_elst, ↓W_vals0, ↓W_vals1, ↓W_bool, ↓W_bool1, ↓W_tand, ↓W_tor, ↓W_tnot, ↓W_tru, ↓W_tru1, ↓W_tru2, ↓W_tru3, ↓W_tru4, ↓W_tru5, ↓W_tru6, ↓W_tru7, ↓W_bo, ↓W_eand, ↓W_eor, ↓W_enot, ↓W_ink, ↓W_eneg, ↓W_snil, ↓W_seq, ↓W_asg, ↓W_asg1, ↓W_asg2, ↓W_asg3, ↓W_ret, ↓W_hand1, ↓W_hand2, ↓W_hand3, ↓W_hand4, ↓W_expr, ↓W_if, ↓W_for, ↓W_any, ↓W_it1, ↓W_it2, ↓W_it3, ↓W_rg1, ↓W_lc, ↓W_bn, ↓W_yes, ↓W_ownK, ↓W_mut, ↓W_app, ↓W_ins, ↓W_setK, ↓W_stK, ↓W_setIx, ↓W_strK, ↓W_upper, ↓W_join1, ↓W_start, ↓W_slot1, ↓W_slot2, ↓W_arg1, ↓W_arg2, ↓W_sFrz, ↓W_strb, endsD, wipeE, List.foldr_cons, List.foldr_nil, List.length_cons, List.length_nil, List.map_cons, List.map_nil, List.cons_append, List.nil_append, List.append_nil, List.replicate, List.getElem?_cons_zero, List.getElem?_cons_succ, List.getElem?_nil, List.set_cons_zero, List.set_cons_succ, Nat.reduceAdd, Nat.reduceSub, Nat.zero_add, if_true, if_false, Bool.false_eq_true, Bool.not_true, Bool.not_false, true_and, and_true, List.forall_mem_cons, List.mem_cons, List.not_mem_nil, or_false, forall_eq_or_imp, forall_eq, false_and, and_false, implies_true, false_or, Option.map_some, Option.map_none, ite_self, Bool.and_true, Bool.true_and, Bool.and_false, Bool.false_and, List.forall_mem_nil, decide_true, decide_false, isNonD, signsD]
          intro F' σ' H' e' ok'
          exact ⟨ok'.len, F', ok'.sto.any, ok'.fh, f3.trans e'⟩

end
end K00

namespace K00
open PySem PySem.Spec L2 DL

theorem all_mk {l : PySem.W.OpenLaw} {w : World} {K : PySem.W.Frag} {h : Heap} {mg : Str → Option Value} {fa : Addr} (X : K.In h) (G : h.Ns mainGlobals mg) (hfa : mg "law" = some (.ref fa))
    {f0 : Addr} {od0 an0 : Option Addr} {sl0 : Array (Option Value)} {oc0 kV0 dc0 pm0 cd0 ct0 : Value}
    {f1 : Addr} {od1 an1 : Option Addr} {sl1 : Array (Option Value)} {oc1 kV1 dc1 pm1 cd1 ct1 : Value}
    {f2 : Addr} {od2 an2 : Option Addr} {sl2 : Array (Option Value)} {oc2 kV2 dc2 pm2 cd2 ct2 : Value}
    {f3 : Addr} {od3 an3 : Option Addr} {sl3 : Array (Option Value)} {oc3 kV3 dc3 pm3 cd3 ct3 : Value}
    {f4 : Addr} {od4 an4 : Option Addr} {sl4 : Array (Option Value)} {oc4 kV4 dc4 pm4 cd4 ct4 : Value}
    {f5 : Addr} {od5 an5 : Option Addr} {sl5 : Array (Option Value)} {oc5 kV5 dc5 pm5 cd5 ct5 : Value}
    {f6 : Addr} {od6 an6 : Option Addr} {sl6 : Array (Option Value)} {oc6 kV6 dc6 pm6 cd6 ct6 : Value}
    {f7 : Addr} {od7 an7 : Option Addr} {sl7 : Array (Option Value)} {oc7 kV7 dc7 pm7 cd7 ct7 : Value}
    {f8 : Addr} {od8 an8 : Option Addr} {sl8 : Array (Option Value)} {oc8 kV8 dc8 pm8 cd8 ct8 : Value}
    {f9 : Addr} {od9 an9 : Option Addr} {sl9 : Array (Option Value)} {oc9 kV9 dc9 pm9 cd9 ct9 : Value}
    {f10 : Addr} {od10 an10 : Option Addr} {sl10 : Array (Option Value)} {oc10 kV10 dc10 pm10 cd10 ct10 : Value}
    {f11 : Addr} {od11 an11 : Option Addr} {sl11 : Array (Option Value)} {oc11 kV11 dc11 pm11 cd11 ct11 : Value}
    {f12 : Addr} {od12 an12 : Option Addr} {sl12 : Array (Option Value)} {oc12 kV12 dc12 pm12 cd12 ct12 : Value}
    {f13 : Addr} {od13 an13 : Option Addr} {sl13 : Array (Option Value)} {oc13 kV13 dc13 pm13 cd13 ct13 : Value}
    {f14 : Addr} {od14 an14 : Option Addr} {sl14 : Array (Option Value)} {oc14 kV14 dc14 pm14 cd14 ct14 : Value}
    {f15 : Addr} {od15 an15 : Option Addr} {sl15 : Array (Option Value)} {oc15 kV15 dc15 pm15 cd15 ct15 : Value}
    {f16 : Addr} {od16 an16 : Option Addr} {sl16 : Array (Option Value)} {oc16 kV16 dc16 pm16 cd16 ct16 : Value}
    {f17 : Addr} {od17 an17 : Option Addr} {sl17 : Array (Option Value)} {oc17 kV17 dc17 pm17 cd17 ct17 : Value}
    {t0 : Tok}
    {t1 : Tok}
    {t2 : Tok}
    {t3 : Tok}
    {t4 : Tok}
    {t5 : Tok}
    {t6 : Tok}
    {t7 : Tok}
    {t8 : Tok}
    {t9 : Tok}
    {t10 : Tok}
    (a0 : PySem.W.nsIn K mainGlobals "is_name" = some (some (.ref f0))) (l0 : K.lookup f0 = some ⟨oc0, od0, .func (PySem.W.fnOf "is_name" "is_name" (defArgs s_is_name) (defBody s_is_name) (defScope s_is_name) .none kV0 dc0 pm0 an0 cd0 ct0), sl0⟩) (c0 : PySem.W.codeIn K cd0 "is_name" = true) (k0 : PySem.W.keepIn K (.ref f0) = true)
    (a1 : PySem.W.nsIn K mainGlobals "_law_mixed" = some (some (.ref f1))) (l1 : K.lookup f1 = some ⟨oc1, od1, .func (PySem.W.fnOf "_law_mixed" "_law_mixed" (defArgs s__law_mixed) (defBody s__law_mixed) (defScope s__law_mixed) .none kV1 dc1 pm1 an1 cd1 ct1), sl1⟩) (c1 : PySem.W.codeIn K cd1 "_law_mixed" = true) (k1 : PySem.W.keepIn K (.ref f1) = true)
    (a2 : PySem.W.nsIn K mainGlobals "_law_store" = some (some (.ref f2))) (l2 : K.lookup f2 = some ⟨oc2, od2, .func (PySem.W.fnOf "_law_store" "_law_store" (defArgs s__law_store) (defBody s__law_store) (defScope s__law_store) .none kV2 dc2 pm2 an2 cd2 ct2), sl2⟩) (c2 : PySem.W.codeIn K cd2 "_law_store" = true) (k2 : PySem.W.keepIn K (.ref f2) = true)
    (a3 : PySem.W.nsIn K mainGlobals "_law_take" = some (some (.ref f3))) (l3 : K.lookup f3 = some ⟨oc3, od3, .func (PySem.W.fnOf "_law_take" "_law_take" (defArgs s__law_take) (defBody s__law_take) (defScope s__law_take) .none kV3 dc3 pm3 an3 cd3 ct3), sl3⟩) (c3 : PySem.W.codeIn K cd3 "_law_take" = true) (k3 : PySem.W.keepIn K (.ref f3) = true)
    (a4 : PySem.W.nsIn K mainGlobals "_law_once" = some (some (.ref f4))) (l4 : K.lookup f4 = some ⟨oc4, od4, .func (PySem.W.fnOf "_law_once" "_law_once" (defArgs s__law_once) (defBody s__law_once) (defScope s__law_once) .none kV4 dc4 pm4 an4 cd4 ct4), sl4⟩) (c4 : PySem.W.codeIn K cd4 "_law_once" = true) (k4 : PySem.W.keepIn K (.ref f4) = true)
    (a5 : PySem.W.nsIn K mainGlobals "_law_pick" = some (some (.ref f5))) (l5 : K.lookup f5 = some ⟨oc5, od5, .func (PySem.W.fnOf "_law_pick" "_law_pick" (defArgs s__law_pick) (defBody s__law_pick) (defScope s__law_pick) .none kV5 dc5 pm5 an5 cd5 ct5), sl5⟩) (c5 : PySem.W.codeIn K cd5 "_law_pick" = true) (k5 : PySem.W.keepIn K (.ref f5) = true)
    (a6 : PySem.W.nsIn K mainGlobals "_law_inorder" = some (some (.ref f6))) (l6 : K.lookup f6 = some ⟨oc6, od6, .func (PySem.W.fnOf "_law_inorder" "_law_inorder" (defArgs s__law_inorder) (defBody s__law_inorder) (defScope s__law_inorder) .none kV6 dc6 pm6 an6 cd6 ct6), sl6⟩) (c6 : PySem.W.codeIn K cd6 "_law_inorder" = true) (k6 : PySem.W.keepIn K (.ref f6) = true)
    (a7 : PySem.W.nsIn K mainGlobals "_law_number" = some (some (.ref f7))) (l7 : K.lookup f7 = some ⟨oc7, od7, .func (PySem.W.fnOf "_law_number" "_law_number" (defArgs s__law_number) (defBody s__law_number) (defScope s__law_number) .none kV7 dc7 pm7 an7 cd7 ct7), sl7⟩) (c7 : PySem.W.codeIn K cd7 "_law_number" = true) (k7 : PySem.W.keepIn K (.ref f7) = true)
    (a8 : PySem.W.nsIn K mainGlobals "_law_signs" = some (some (.ref f8))) (l8 : K.lookup f8 = some ⟨oc8, od8, .func (PySem.W.fnOf "_law_signs" "_law_signs" (defArgs s__law_signs) (defBody s__law_signs) (defScope s__law_signs) .none kV8 dc8 pm8 an8 cd8 ct8), sl8⟩) (c8 : PySem.W.codeIn K cd8 "_law_signs" = true) (k8 : PySem.W.keepIn K (.ref f8) = true)
    (a9 : PySem.W.nsIn K mainGlobals "_law_string" = some (some (.ref f9))) (l9 : K.lookup f9 = some ⟨oc9, od9, .func (PySem.W.fnOf "_law_string" "_law_string" (defArgs s__law_string) (defBody s__law_string) (defScope s__law_string) .none kV9 dc9 pm9 an9 cd9 ct9), sl9⟩) (c9 : PySem.W.codeIn K cd9 "_law_string" = true) (k9 : PySem.W.keepIn K (.ref f9) = true)
    (a10 : PySem.W.nsIn K mainGlobals "_law_name" = some (some (.ref f10))) (l10 : K.lookup f10 = some ⟨oc10, od10, .func (PySem.W.fnOf "_law_name" "_law_name" (defArgs s__law_name) (defBody s__law_name) (defScope s__law_name) .none kV10 dc10 pm10 an10 cd10 ct10), sl10⟩) (c10 : PySem.W.codeIn K cd10 "_law_name" = true) (k10 : PySem.W.keepIn K (.ref f10) = true)
    (a11 : PySem.W.nsIn K mainGlobals "_law_badname" = some (some (.ref f11))) (l11 : K.lookup f11 = some ⟨oc11, od11, .func (PySem.W.fnOf "_law_badname" "_law_badname" (defArgs s__law_badname) (defBody s__law_badname) (defScope s__law_badname) .none kV11 dc11 pm11 an11 cd11 ct11), sl11⟩) (c11 : PySem.W.codeIn K cd11 "_law_badname" = true) (k11 : PySem.W.keepIn K (.ref f11) = true)
    (a12 : PySem.W.nsIn K mainGlobals "_law_same" = some (some (.ref f12))) (l12 : K.lookup f12 = some ⟨oc12, od12, .func (PySem.W.fnOf "_law_same" "_law_same" (defArgs s__law_same) (defBody s__law_same) (defScope s__law_same) .none kV12 dc12 pm12 an12 cd12 ct12), sl12⟩) (c12 : PySem.W.codeIn K cd12 "_law_same" = true) (k12 : PySem.W.keepIn K (.ref f12) = true)
    (a13 : PySem.W.nsIn K mainGlobals "_law_copied" = some (some (.ref f13))) (l13 : K.lookup f13 = some ⟨oc13, od13, .func (PySem.W.fnOf "_law_copied" "_law_copied" (defArgs s__law_copied) (defBody s__law_copied) (defScope s__law_copied) .none kV13 dc13 pm13 an13 cd13 ct13), sl13⟩) (c13 : PySem.W.codeIn K cd13 "_law_copied" = true) (k13 : PySem.W.keepIn K (.ref f13) = true)
    (a14 : PySem.W.nsIn K mainGlobals "_law_item" = some (some (.ref f14))) (l14 : K.lookup f14 = some ⟨oc14, od14, .func (PySem.W.fnOf "_law_item" "_law_item" (defArgs s__law_item) (defBody s__law_item) (defScope s__law_item) .none kV14 dc14 pm14 an14 cd14 ct14), sl14⟩) (c14 : PySem.W.codeIn K cd14 "_law_item" = true) (k14 : PySem.W.keepIn K (.ref f14) = true)
    (a15 : PySem.W.nsIn K mainGlobals "_law_due" = some (some (.ref f15))) (l15 : K.lookup f15 = some ⟨oc15, od15, .func (PySem.W.fnOf "_law_due" "_law_due" (defArgs s__law_due) (defBody s__law_due) (defScope s__law_due) .none kV15 dc15 pm15 an15 cd15 ct15), sl15⟩) (c15 : PySem.W.codeIn K cd15 "_law_due" = true) (k15 : PySem.W.keepIn K (.ref f15) = true)
    (a16 : PySem.W.nsIn K mainGlobals "_law_nearby" = some (some (.ref f16))) (l16 : K.lookup f16 = some ⟨oc16, od16, .func (PySem.W.fnOf "_law_nearby" "_law_nearby" (defArgs s__law_nearby) (defBody s__law_nearby) (defScope s__law_nearby) .none kV16 dc16 pm16 an16 cd16 ct16), sl16⟩) (c16 : PySem.W.codeIn K cd16 "_law_nearby" = true) (k16 : PySem.W.keepIn K (.ref f16) = true)
    (a17 : PySem.W.nsIn K mainGlobals "law" = some (some (.ref f17))) (l17 : K.lookup f17 = some ⟨oc17, od17, .func (PySem.W.fnOf "law" "law" (defArgs s_law) (defBody s_law) (defScope s_law) .none kV17 dc17 pm17 an17 cd17 ct17), sl17⟩) (c17 : PySem.W.codeIn K cd17 "law" = true) (k17 : PySem.W.keepIn K (.ref f17) = true)
    (gc0 : PySem.W.nsIn K mainGlobals "MOST_SIGNS" = some (some (.int 8 t0)))
    (gc1 : PySem.W.nsIn K mainGlobals "MOST_NAMES" = some (some (.int 12 t1)))
    (gc2 : PySem.W.nsIn K mainGlobals "MOST_LISTS" = some (some (.int 12 t2)))
    (gc3 : PySem.W.nsIn K mainGlobals "PARTED_NAMES" = some (some (.int 7 t3)))
    (gc4 : PySem.W.nsIn K mainGlobals "GROWN_NAMES" = some (some (.int 6 t4)))
    (gc5 : PySem.W.nsIn K mainGlobals "MOST_TREES" = some (some (.int 400 t5)))
    (gc6 : PySem.W.nsIn K mainGlobals "MOST_TEXT" = some (some (.int 400 t6)))
    (gc7 : PySem.W.nsIn K mainGlobals "MOST_PAPER" = some (some (.int 8000 t7)))
    (gc8 : PySem.W.nsIn K mainGlobals "MOST_LINES" = some (some (.int 40 t8)))
    (gc9 : PySem.W.nsIn K mainGlobals "LETTERS" = some (some (.str "abcdefghijklmnopqrstuvwxyz" t9)))
    (gc10 : PySem.W.nsIn K mainGlobals "SIGNS" = some (some (.str "abcdefghijklmnopqrstuvwxyz0123456789" t10)))
    (zc0 : PySem.W.nsIn K mainGlobals "len" = some none)
    (zc1 : PySem.W.nsIn K mainGlobals "abs" = some none)
    (zc2 : PySem.W.nsIn K mainGlobals "int" = some none)
    (zc3 : PySem.W.nsIn K mainGlobals "str" = some none)
    (zc4 : PySem.W.nsIn K mainGlobals "list" = some none)
    (zc5 : PySem.W.nsIn K mainGlobals "tuple" = some none)
    (zc6 : PySem.W.nsIn K mainGlobals "all" = some none)
    (zc7 : PySem.W.nsIn K mainGlobals "isinstance" = some none)
    (zc8 : PySem.W.nsIn K mainGlobals "bool" = some none)
    (zc9 : PySem.W.nsIn K mainGlobals "range" = some none) :
    ∃ fd : FuncData, (∀ (s : Shared) (v : Value), BindsTo s fd ⟨[v], []⟩ [("script", v)]) ∧ ∀ base : Heap, K.In base → base.Ns mainGlobals mg → FnOk l.prog w K mg base (L2.CX l.prog w) 7 fa fd ["script"] (spLaw K) := by
  have e := hfa.symm.trans (PySem.W.mg_of X G a17)
  cases e
  have T : Tx K mg ⟨f0, 
      PySem.W.fnOf "is_name" "is_name" (defArgs s_is_name) (defBody s_is_name) (defScope s_is_name) .none kV0 dc0 pm0 an0 cd0 ct0, 
      f1, 
      PySem.W.fnOf "_law_mixed" "_law_mixed" (defArgs s__law_mixed) (defBody s__law_mixed) (defScope s__law_mixed) .none kV1 dc1 pm1 an1 cd1 ct1, 
      f2, 
      PySem.W.fnOf "_law_store" "_law_store" (defArgs s__law_store) (defBody s__law_store) (defScope s__law_store) .none kV2 dc2 pm2 an2 cd2 ct2, 
      f3, 
      PySem.W.fnOf "_law_take" "_law_take" (defArgs s__law_take) (defBody s__law_take) (defScope s__law_take) .none kV3 dc3 pm3 an3 cd3 ct3, 
      f4, 
      PySem.W.fnOf "_law_once" "_law_once" (defArgs s__law_once) (defBody s__law_once) (defScope s__law_once) .none kV4 dc4 pm4 an4 cd4 ct4, 
      f5, 
      PySem.W.fnOf "_law_pick" "_law_pick" (defArgs s__law_pick) (defBody s__law_pick) (defScope s__law_pick) .none kV5 dc5 pm5 an5 cd5 ct5, 
      f6, 
      PySem.W.fnOf "_law_inorder" "_law_inorder" (defArgs s__law_inorder) (defBody s__law_inorder) (defScope s__law_inorder) .none kV6 dc6 pm6 an6 cd6 ct6, 
      f7, 
      PySem.W.fnOf "_law_number" "_law_number" (defArgs s__law_number) (defBody s__law_number) (defScope s__law_number) .none kV7 dc7 pm7 an7 cd7 ct7, 
      f8, 
      PySem.W.fnOf "_law_signs" "_law_signs" (defArgs s__law_signs) (defBody s__law_signs) (defScope s__law_signs) .none kV8 dc8 pm8 an8 cd8 ct8, 
      f9, 
      PySem.W.fnOf "_law_string" "_law_string" (defArgs s__law_string) (defBody s__law_string) (defScope s__law_string) .none kV9 dc9 pm9 an9 cd9 ct9, 
      f10, 
      PySem.W.fnOf "_law_name" "_law_name" (defArgs s__law_name) (defBody s__law_name) (defScope s__law_name) .none kV10 dc10 pm10 an10 cd10 ct10, 
      f11, 
      PySem.W.fnOf "_law_badname" "_law_badname" (defArgs s__law_badname) (defBody s__law_badname) (defScope s__law_badname) .none kV11 dc11 pm11 an11 cd11 ct11, 
      f12, 
      PySem.W.fnOf "_law_same" "_law_same" (defArgs s__law_same) (defBody s__law_same) (defScope s__law_same) .none kV12 dc12 pm12 an12 cd12 ct12, 
      f13, 
      PySem.W.fnOf "_law_copied" "_law_copied" (defArgs s__law_copied) (defBody s__law_copied) (defScope s__law_copied) .none kV13 dc13 pm13 an13 cd13 ct13, 
      f14, 
      PySem.W.fnOf "_law_item" "_law_item" (defArgs s__law_item) (defBody s__law_item) (defScope s__law_item) .none kV14 dc14 pm14 an14 cd14 ct14, 
      f15, 
      PySem.W.fnOf "_law_due" "_law_due" (defArgs s__law_due) (defBody s__law_due) (defScope s__law_due) .none kV15 dc15 pm15 an15 cd15 ct15, 
      f16, 
      PySem.W.fnOf "_law_nearby" "_law_nearby" (defArgs s__law_nearby) (defBody s__law_nearby) (defScope s__law_nearby) .none kV16 dc16 pm16 an16 cd16 ct16, 
      fa, 
      PySem.W.fnOf "law" "law" (defArgs s_law) (defBody s_law) (defScope s_law) .none kV17 dc17 pm17 an17 cd17 ct17, 
      t0, 
      t1, 
      t2, 
      t3, 
      t4, 
      t5, 
      t6, 
      t7, 
      t8, 
      t9, 
      t10⟩ :=
    ⟨PySem.W.mg_of X G a0,
      fun_mk (st := s_is_name) l0 c0 k0,
      (fun_mk (st := s_is_name) l0 c0 k0).binds (ps := ["value"]) fun _ _ _ _ _ _ us hl => match us, hl with | [_], _ => rfl,
      PySem.W.mg_of X G a1,
      fun_mk (st := s__law_mixed) l1 c1 k1,
      (fun_mk (st := s__law_mixed) l1 c1 k1).binds (ps := ["number", "turn"]) fun _ _ _ _ _ _ us hl => match us, hl with | [_, _], _ => rfl,
      PySem.W.mg_of X G a2,
      fun_mk (st := s__law_store) l2 c2 k2,
      (fun_mk (st := s__law_store) l2 c2 k2).binds (ps := ["script"]) fun _ _ _ _ _ _ us hl => match us, hl with | [_], _ => rfl,
      PySem.W.mg_of X G a3,
      fun_mk (st := s__law_take) l3 c3 k3,
      (fun_mk (st := s__law_take) l3 c3 k3).binds (ps := ["store", "many"]) fun _ _ _ _ _ _ us hl => match us, hl with | [_, _], _ => rfl,
      PySem.W.mg_of X G a4,
      fun_mk (st := s__law_once) l4 c4 k4,
      (fun_mk (st := s__law_once) l4 c4 k4).binds (ps := ["store", "many"]) fun _ _ _ _ _ _ us hl => match us, hl with | [_, _], _ => rfl,
      PySem.W.mg_of X G a5,
      fun_mk (st := s__law_pick) l5 c5 k5,
      (fun_mk (st := s__law_pick) l5 c5 k5).binds (ps := ["store", "items"]) fun _ _ _ _ _ _ us hl => match us, hl with | [_, _], _ => rfl,
      PySem.W.mg_of X G a6,
      fun_mk (st := s__law_inorder) l6 c6 k6,
      (fun_mk (st := s__law_inorder) l6 c6 k6).binds (ps := ["store", "items"]) fun _ _ _ _ _ _ us hl => match us, hl with | [_, _], _ => rfl,
      PySem.W.mg_of X G a7,
      fun_mk (st := s__law_number) l7 c7 k7,
      (fun_mk (st := s__law_number) l7 c7 k7).binds (ps := ["store", "low", "high"]) fun _ _ _ _ _ _ us hl => match us, hl with | [_, _, _], _ => rfl,
      PySem.W.mg_of X G a8,
      fun_mk (st := s__law_signs) l8 c8 k8,
      (fun_mk (st := s__law_signs) l8 c8 k8).binds (ps := []) fun _ _ _ _ _ _ us hl => match us, hl with | [], _ => rfl,
      PySem.W.mg_of X G a9,
      fun_mk (st := s__law_string) l9 c9 k9,
      (fun_mk (st := s__law_string) l9 c9 k9).binds (ps := ["store", "count"]) fun _ _ _ _ _ _ us hl => match us, hl with | [_, _], _ => rfl,
      PySem.W.mg_of X G a10,
      fun_mk (st := s__law_name) l10 c10 k10,
      (fun_mk (st := s__law_name) l10 c10 k10).binds (ps := ["store"]) fun _ _ _ _ _ _ us hl => match us, hl with | [_], _ => rfl,
      PySem.W.mg_of X G a11,
      fun_mk (st := s__law_badname) l11 c11 k11,
      (fun_mk (st := s__law_badname) l11 c11 k11).binds (ps := ["store"]) fun _ _ _ _ _ _ us hl => match us, hl with | [_], _ => rfl,
      PySem.W.mg_of X G a12,
      fun_mk (st := s__law_same) l12 c12 k12,
      (fun_mk (st := s__law_same) l12 c12 k12).binds (ps := ["actual", "due"]) fun _ _ _ _ _ _ us hl => match us, hl with | [_, _], _ => rfl,
      PySem.W.mg_of X G a13,
      fun_mk (st := s__law_copied) l13 c13 k13,
      (fun_mk (st := s__law_copied) l13 c13 k13).binds (ps := ["value"]) fun _ _ _ _ _ _ us hl => match us, hl with | [_], _ => rfl,
      PySem.W.mg_of X G a14,
      fun_mk (st := s__law_item) l14 c14 k14,
      (fun_mk (st := s__law_item) l14 c14 k14).binds (ps := ["store"]) fun _ _ _ _ _ _ us hl => match us, hl with | [_], _ => rfl,
      PySem.W.mg_of X G a15,
      fun_mk (st := s__law_due) l15 c15 k15,
      (fun_mk (st := s__law_due) l15 c15 k15).binds (ps := ["item"]) fun _ _ _ _ _ _ us hl => match us, hl with | [_], _ => rfl,
      PySem.W.mg_of X G a16,
      fun_mk (st := s__law_nearby) l16 c16 k16,
      (fun_mk (st := s__law_nearby) l16 c16 k16).binds (ps := ["item"]) fun _ _ _ _ _ _ us hl => match us, hl with | [_], _ => rfl,
      PySem.W.mg_of X G a17,
      fun_mk (st := s_law) l17 c17 k17,
      (fun_mk (st := s_law) l17 c17 k17).binds (ps := ["script"]) fun _ _ _ _ _ _ us hl => match us, hl with | [_], _ => rfl,
      PySem.W.mg_of X G gc0,
      PySem.W.mg_of X G gc1,
      PySem.W.mg_of X G gc2,
      PySem.W.mg_of X G gc3,
      PySem.W.mg_of X G gc4,
      PySem.W.mg_of X G gc5,
      PySem.W.mg_of X G gc6,
      PySem.W.mg_of X G gc7,
      PySem.W.mg_of X G gc8,
      PySem.W.mg_of X G gc9,
      PySem.W.mg_of X G gc10,
      ⟨fun s ws hl => match ws, hl with | [_], _ => .of_eq rfl, fun _ h => h, fun _ h => h⟩,
      PySem.W.mg_none_of X G zc0,
      PySem.W.mg_none_of X G zc1,
      PySem.W.mg_none_of X G zc2,
      PySem.W.mg_none_of X G zc3,
      PySem.W.mg_none_of X G zc4,
      PySem.W.mg_none_of X G zc5,
      PySem.W.mg_none_of X G zc6,
      PySem.W.mg_none_of X G zc7,
      PySem.W.mg_none_of X G zc8,
      PySem.W.mg_none_of X G zc9⟩
  exact ⟨_, fun s v => .of_eq rfl, fun base _ _ => ok_law T⟩
end K00
section
open PySem PySem.W PyProof.Rows
set_option maxRecDepth 100000 in
set_option maxHeartbeats 0 in
theorem PySem.Challenge.cw_fourmet_k00_is_name_holds : PySem.Challenge.rw_fourmet_k00_is_name.Holds := by
  w_on; o_law; k_head; (case hw => w_witness2)
  k_fill
  refine L2.walk_of (l := PySem.Challenge.rw_fourmet_k00_is_name) (n := 63) (k := 7) (x := "script") (CX := fun w => L2.CX PySem.Challenge.rw_fourmet_k00_is_name.prog w) (sp := fun w => K00.spLaw _) rfl (by decide) rfl ⟨rfl, by decide, by decide⟩ (fun w h Y => PySem.W.kIn_of Y) ?F (fun _ _ a ns hl _ hS => ⟨a, ns, rfl, hS, hl, fun _ => rfl⟩) (fun _ _ _ _ _ ⟨_, _, _, _, _, _, _, _, _, _, _, _, h⟩ => h)
  case F =>
    intro w mg fa h KX G hmg
    refine' K00.all_mk KX G hmg ?a0 ?l0 ?c0 ?k0 ?a1 ?l1 ?c1 ?k1 ?a2 ?l2 ?c2 ?k2 ?a3 ?l3 ?c3 ?k3 ?a4 ?l4 ?c4 ?k4 ?a5 ?l5 ?c5 ?k5 ?a6 ?l6 ?c6 ?k6 ?a7 ?l7 ?c7 ?k7 ?a8 ?l8 ?c8 ?k8 ?a9 ?l9 ?c9 ?k9 ?a10 ?l10 ?c10 ?k10 ?a11 ?l11 ?c11 ?k11 ?a12 ?l12 ?c12 ?k12 ?a13 ?l13 ?c13 ?k13 ?a14 ?l14 ?c14 ?k14 ?a15 ?l15 ?c15 ?k15 ?a16 ?l16 ?c16 ?k16 ?a17 ?l17 ?c17 ?k17 ?gc0 ?gc1 ?gc2 ?gc3 ?gc4 ?gc5 ?gc6 ?gc7 ?gc8 ?gc9 ?gc10 ?zc0 ?zc1 ?zc2 ?zc3 ?zc4 ?zc5 ?zc6 ?zc7 ?zc8 ?zc9
    (case a0 => k_is); (case l0 => k_is); (case c0 => k_is); (case k0 => k_is); (case a1 => k_is); (case l1 => k_is); (case c1 => k_is); (case k1 => k_is); (case a2 => k_is); (case l2 => k_is); (case c2 => k_is); (case k2 => k_is); (case a3 => k_is); (case l3 => k_is); (case c3 => k_is); (case k3 => k_is); (case a4 => k_is); (case l4 => k_is); (case c4 => k_is); (case k4 => k_is); (case a5 => k_is); (case l5 => k_is); (case c5 => k_is); (case k5 => k_is); (case a6 => k_is); (case l6 => k_is); (case c6 => k_is); (case k6 => k_is); (case a7 => k_is); (case l7 => k_is); (case c7 => k_is); (case k7 => k_is); (case a8 => k_is); (case l8 => k_is); (case c8 => k_is); (case k8 => k_is); (case a9 => k_is); (case l9 => k_is); (case c9 => k_is); (case k9 => k_is); (case a10 => k_is); (case l10 => k_is); (case c10 => k_is); (case k10 => k_is); (case a11 => k_is); (case l11 => k_is); (case c11 => k_is); (case k11 => k_is); (case a12 => k_is); (case l12 => k_is); (case c12 => k_is); (case k12 => k_is); (case a13 => k_is); (case l13 => k_is); (case c13 => k_is); (case k13 => k_is); (case a14 => k_is); (case l14 => k_is); (case c14 => k_is); (case k14 => k_is); (case a15 => k_is); (case l15 => k_is); (case c15 => k_is); (case k15 => k_is); (case a16 => k_is); (case l16 => k_is); (case c16 => k_is); (case k16 => k_is); (case a17 => k_is); (case l17 => k_is); (case c17 => k_is); (case k17 => k_is); (case gc0 => k_is); (case gc1 => k_is); (case gc2 => k_is); (case gc3 => k_is); (case gc4 => k_is); (case gc5 => k_is); (case gc6 => k_is); (case gc7 => k_is); (case gc8 => k_is); (case gc9 => k_is); (case gc10 => k_is); (case zc0 => k_is); (case zc1 => k_is); (case zc2 => k_is); (case zc3 => k_is); (case zc4 => k_is); (case zc5 => k_is); (case zc6 => k_is); (case zc7 => k_is); (case zc8 => k_is); (case zc9 => k_is)
end
