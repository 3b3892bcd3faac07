import PyProof.Rows.All
import Wide.All
import OpenK.AllK
import Wide.FinOn
import HandS.ForMost
import HandS.ForExc
import HandS.Evl
import HandS.IsInst
import HandS.SetKeys
import HandS.Deep
import HandS.Wide
import HandS.More
import HandS.ExcCtx
import HandS.HotCalls
import HandS.ExcIs
import HandS.ExcField
import HandS.ExcInit
import HandS.TupAny
import PyProof.StrOps2
import KE.KExcIs
import PyProof.Rows.SortShellAny
import HandS.Replace
import PyProof.Rows.StrLawsPart
import HandS.Rev
import KE.DataMinMax
import OpenK.KMeth
import HandS.Property
import HandS.OwnEq
import HandS.MakeKw
import HandS.ExcOwn
import HandS.Defaults
import KE.KOwnIter
import HandS.IterVal
import KE.GoesEnum
import HandS.Iter
import HandS.TupSets
import HandS.SetBool
import KE.SortCalls
import HandS.SortRule
import HandS.SortOrd
import PySem.Challenge.RW_fourmet_k38_all_partings
set_option Elab.async false
set_option linter.all false
set_option maxRecDepth 100000
set_option maxHeartbeats 4000000
namespace DL
open PySem PySem.Spec L2
abbrev Ex := Evl.Ex
inductive D where
  | non | bl (b : Bool) | int (i : Int) | str (s : Str) | tup (xs : List D) | lst (xs : List D) | obj (C : Addr) (ns : List Str) (xs : List D) | ty (n : String) | cls (C : Addr)
mutual
def Rep (K : PySem.W.Frag) (F : Hp) : D → V → Prop
  | .non, v => v = .non
  | .bl b, v => v = .bl b
  | .int i, v => v = .int i
  | .str s, v => v = .str s
  | .tup xs, v => ∃ a vs, v = .ref a ∧ SqT K F a vs ∧ RepL K F xs vs
  | .lst xs, v => ∃ a vs, v = .ref a ∧ F a = some (.lst vs) ∧ RepL K F xs vs
  | .obj C ns xs, v => ∃ a dx vs, v = .ref a ∧ F a = some (.ins C dx (ns.zip vs)) ∧ ns.length = vs.length ∧ RepL K F xs vs
  | .ty n, v => v = .ty n
  | .cls C, v => v = .ref C
def RepL (K : PySem.W.Frag) (F : Hp) : List D → List V → Prop
  | [], vs => vs = []
  | d :: ds, vs => ∃ v r, vs = v :: r ∧ Rep K F d v ∧ RepL K F ds r
end
mutual
def lf : D → Bool
  | .lst _ => false
  | .tup xs => lfL xs
  | .obj _ _ xs => lfL xs
  | _ => true
def lfL : List D → Bool
  | [] => true
  | d :: ds => lf d && lfL ds
end
section
variable {K : PySem.W.Frag} {F F' : Hp}
mutual
theorem Rep.mono (e : Ex F F') : ∀ {d : D} {v : V}, Rep K F d v → Rep K F' d v
  | .non, _, h => by simpa only [Rep] using h
  | .bl _, _, h => by simpa only [Rep] using h
  | .int _, _, h => by simpa only [Rep] using h
  | .str _, _, h => by simpa only [Rep] using h
  | .tup xs, _, h => by
    simp only [Rep] at h ⊢
    obtain ⟨a, vs, h1, h2, h3⟩ := h
    exact ⟨a, vs, h1, Evl.ex_t e h2, RepL.mono e h3⟩
  | .lst xs, _, h => by
    simp only [Rep] at h ⊢
    obtain ⟨a, vs, h1, h2, h3⟩ := h
    exact ⟨a, vs, h1, e _ _ h2, RepL.mono e h3⟩
  | .obj C ns xs, _, h => by
    simp only [Rep] at h ⊢
    obtain ⟨a, dx, vs, h1, h2, h3, h4⟩ := h
    exact ⟨a, dx, vs, h1, e _ _ h2, h3, RepL.mono e h4⟩
  | .ty _, _, h => by simpa only [Rep] using h
  | .cls _, _, h => by simpa only [Rep] using h
theorem RepL.mono (e : Ex F F') : ∀ {d : List D} {v : List V}, RepL K F d v → RepL K F' d v
  | [], _, h => by simpa only [RepL] using h
  | d :: ds, _, h => by
    simp only [RepL] at h ⊢
    obtain ⟨v, r, h1, h2, h3⟩ := h
    exact ⟨v, r, h1, Rep.mono e h2, RepL.mono e h3⟩
end
def Tx (F F' : Hp) : Prop := ∀ a o, F a = some o → (∃ xs, o = .lst xs) ∨ (∃ u xs, o = .frz u (.lst xs)) ∨ F' a = some o
theorem tx_t {a : Addr} {xs : List V} (e : Tx F F') (h : SqT K F a xs) : SqT K F' a xs := by
  rcases h with h | h
  · rcases h with h | ⟨o, h⟩
    · rcases e _ _ h with ⟨_, z⟩ | ⟨_, _, z⟩ | z
      · cases z
      · cases z
      · exact .inl (.inl z)
    · rcases e _ _ h with ⟨_, z⟩ | ⟨_, _, z⟩ | z
      · cases z
      · cases z
      · exact .inl (.inr ⟨o, z⟩)
  · exact .inr h
mutual
theorem Rep.lf (e : Tx F F') : ∀ {d : D} {v : V}, lf d = true → Rep K F d v → Rep K F' d v
  | .non, _, _, h => by simpa only [Rep] using h
  | .bl _, _, _, h => by simpa only [Rep] using h
  | .int _, _, _, h => by simpa only [Rep] using h
  | .str _, _, _, h => by simpa only [Rep] using h
  | .tup xs, _, l, h => by
    simp only [Rep] at h ⊢
    simp only [DL.lf] at l
    obtain ⟨a, vs, h1, h2, h3⟩ := h
    exact ⟨a, vs, h1, tx_t e h2, RepL.lf e l h3⟩
  | .lst xs, _, l, h => by simp [DL.lf] at l
  | .obj C ns xs, _, l, h => by
    simp only [Rep] at h ⊢
    simp only [DL.lf] at l
    obtain ⟨a, dx, vs, h1, h2, h3, h4⟩ := h
    refine ⟨a, dx, vs, h1, ?_, h3, RepL.lf e l h4⟩
    rcases e _ _ h2 with ⟨_, z⟩ | ⟨_, _, z⟩ | z
    · cases z
    · cases z
    · exact z
  | .ty _, _, _, h => by simpa only [Rep] using h
  | .cls _, _, _, h => by simpa only [Rep] using h
theorem RepL.lf (e : Tx F F') : ∀ {d : List D} {v : List V}, lfL d = true → RepL K F d v → RepL K F' d v
  | [], _, _, h => by simpa only [RepL] using h
  | d :: ds, _, l, h => by
    simp only [RepL] at h ⊢
    simp only [DL.lfL, Bool.and_eq_true] at l
    obtain ⟨v, r, h1, h2, h3⟩ := h
    exact ⟨v, r, h1, Rep.lf e l.1 h2, RepL.lf e l.2 h3⟩
end
theorem RepL.length : ∀ {ds : List D} {vs : List V}, RepL K F ds vs → ds.length = vs.length
  | [], _, h => by simp only [RepL] at h; subst h; rfl
  | d :: ds, _, h => by
    simp only [RepL] at h
    obtain ⟨v, r, rfl, _, h3⟩ := h
    simp [RepL.length h3]
theorem RepL.get : ∀ {ds : List D} {vs : List V} {i : Nat} {d : D}, RepL K F ds vs → ds[i]? = some d → ∃ v, vs[i]? = some v ∧ Rep K F d v
  | [], _, _, _, _, e => by simp at e
  | d :: ds, _, 0, _, h, e => by
    simp only [RepL] at h
    obtain ⟨v, r, rfl, h2, h3⟩ := h
    simp at e
    subst e
    exact ⟨v, rfl, h2⟩
  | d :: ds, _, i + 1, _, h, e => by
    simp only [RepL] at h
    obtain ⟨v, r, rfl, h2, h3⟩ := h
    simpa using RepL.get h3 (by simpa using e)
theorem RepL.back : ∀ {ds : List D} {vs : List V} {i : Nat} {v : V}, RepL K F ds vs → vs[i]? = some v → ∃ d, ds[i]? = some d ∧ Rep K F d v
  | [], _, _, _, h, e => by simp only [RepL] at h; subst h; simp at e
  | d :: ds, _, 0, _, h, e => by
    simp only [RepL] at h
    obtain ⟨v, r, rfl, h2, h3⟩ := h
    simp at e
    subst e
    exact ⟨d, rfl, h2⟩
  | d :: ds, _, i + 1, _, h, e => by
    simp only [RepL] at h
    obtain ⟨v, r, rfl, h2, h3⟩ := h
    simpa using RepL.back h3 (by simpa using e)
theorem RepL.append : ∀ {ds es : List D} {vs ws : List V}, RepL K F ds vs → RepL K F es ws → RepL K F (ds ++ es) (vs ++ ws)
  | [], _, _, _, h, k => by simp only [RepL] at h; subst h; simpa using k
  | d :: ds, _, _, _, h, k => by
    simp only [RepL] at h
    obtain ⟨v, r, rfl, h2, h3⟩ := h
    simp only [List.cons_append, RepL]
    exact ⟨v, r ++ _, rfl, h2, RepL.append h3 k⟩
theorem RepL.drop : ∀ {ds : List D} {vs : List V} (n : Nat), RepL K F ds vs → RepL K F (ds.drop n) (vs.drop n)
  | _, _, 0, h => by simpa using h
  | [], _, n + 1, h => by simp only [RepL] at h; subst h; simp [RepL]
  | d :: ds, _, n + 1, h => by
    simp only [RepL] at h
    obtain ⟨v, r, rfl, h2, h3⟩ := h
    simpa using RepL.drop n h3
theorem RepL.take : ∀ {ds : List D} {vs : List V} (n : Nat), RepL K F ds vs → RepL K F (ds.take n) (vs.take n)
  | _, _, 0, h => by simp [RepL]
  | [], _, n + 1, h => by simp only [RepL] at h; subst h; simp [RepL]
  | d :: ds, _, n + 1, h => by
    simp only [RepL] at h
    obtain ⟨v, r, rfl, h2, h3⟩ := h
    simp only [List.take_succ_cons, RepL]
    exact ⟨v, r.take n, rfl, h2, RepL.take n h3⟩
theorem RepL.set : ∀ {ds : List D} {vs : List V} {d : D} {v : V} (n : Nat), RepL K F ds vs → Rep K F d v → RepL K F (ds.set n d) (vs.set n v)
  | [], _, _, _, n, h, _ => by simp only [RepL] at h; subst h; simp [RepL]
  | d :: ds, _, _, _, 0, h, k => by
    simp only [RepL] at h
    obtain ⟨v, r, rfl, h2, h3⟩ := h
    simp only [List.set_cons_zero, RepL]
    exact ⟨_, r, rfl, k, h3⟩
  | d :: ds, _, _, _, n + 1, h, k => by
    simp only [RepL] at h
    obtain ⟨v, r, rfl, h2, h3⟩ := h
    simp only [List.set_cons_succ, RepL]
    exact ⟨v, _, rfl, h2, RepL.set n h3 k⟩
theorem repL_nil {vs : List V} : RepL K F [] vs ↔ vs = [] := by simp only [RepL]
theorem repL_cons {d : D} {ds : List D} {vs : List V} : RepL K F (d :: ds) vs ↔ ∃ v r, vs = v :: r ∧ Rep K F d v ∧ RepL K F ds r := by simp only [RepL]
theorem repL_strs : ∀ {ss : List Str} {vs : List V}, RepL K F (ss.map D.str) vs ↔ vs = ss.map V.str
  | [], vs => by simp only [List.map_nil, RepL]
  | s :: ss, vs => by
    simp only [List.map_cons, RepL, Rep]
    constructor
    · rintro ⟨v, r, rfl, rfl, h⟩
      rw [repL_strs.mp h]
    · rintro rfl
      exact ⟨_, _, rfl, rfl, repL_strs.mpr rfl⟩
end
structure StoreAt (K : PySem.W.Frag) (st : Addr) (T : Nat) (F H : Hp) : Prop where
  free : F st = none
  at' : ∃ (c : Addr) (ns : List Int) (i r sd t : Int), H st = some (.lst [.ref c, .int i, .int r, .int sd, .int t]) ∧ (∃ o : Obj, F c = some (.frz o (.lst (ns.map V.int)))) ∧ ns.length ≤ 63 ∧ 0 ≤ i ∧ 0 ≤ r ∧ 0 ≤ sd ∧ sd < 2147483648 ∧ 0 ≤ t
theorem StoreAt.up {K : PySem.W.Frag} {st : Addr} {T T' : Nat} {F H : Hp} (h : StoreAt K st T F H) (l : T ≤ T') : StoreAt K st T' F H := ⟨h.free, by
  exact h.at'⟩
theorem StoreAt.any {K : PySem.W.Frag} {st : Addr} {T T' : Nat} {F H : Hp} (h : StoreAt K st T F H) : StoreAt K st T' F H := ⟨h.free, h.at'⟩
theorem StoreAt.some {K : PySem.W.Frag} {st : Addr} {T : Nat} {F H : Hp} (h : StoreAt K st T F H) : H st ≠ none := by
  obtain ⟨c, ns, i, r, sd, t, h1, _⟩ := h.at'
  rw [h1]
  exact fun z => nomatch z
theorem StoreAt.to {K : PySem.W.Frag} {st : Addr} {T : Nat} {F H F' H' : Hp} (h : StoreAt K st T F H) (e : Ex F F') (k : H' st = H st) (f : F' st = none) : StoreAt K st T F' H' := ⟨f, by
  obtain ⟨c, ns, i, r, sd, t, h1, ⟨o, h2⟩, h3⟩ := h.at'
  exact ⟨c, ns, i, r, sd, t, k.trans h1, ⟨o, e _ _ h2⟩, h3⟩⟩
inductive SV where
  | val (d : D) | own (xs : List D) | sto
inductive RV where
  | val (d : D) | own (xs : List D) | bor (xs : List D) | sto
abbrev En := List (Option SV)
structure Grow (st : Addr) (F H F' H' : Hp) : Prop where
  ff : Ex F F'
  fh : Ex F' H'
  hh : ∀ b x, b ≠ st → H b = some x → H' b = some x
  nf : ∀ b, F b = none → H b ≠ none → F' b = none
  sf : F' st = none
theorem Grow.refl {st : Addr} {F H : Hp} (e : Ex F H) (s : F st = none) : Grow st F H F H := ⟨Evl.Ex.refl F, e, fun _ _ _ h => h, fun _ h _ => h, s⟩
theorem Grow.trans {st : Addr} {F H F1 H1 F2 H2 : Hp} (a : Grow st F H F1 H1) (b : Grow st F1 H1 F2 H2) : Grow st F H F2 H2 :=
  ⟨a.ff.trans b.ff, b.fh, fun c x n h => b.hh c x n (a.hh c x n h), fun c f h => by
    by_cases e : c = st
    · rw [e]; exact b.sf
    · refine b.nf c (a.nf c f h) fun z => ?_
      cases q : H c with
      | none => exact h q
      | some x =>
        rw [a.hh c x e q] at z
        exact (nomatch z), b.sf⟩
structure G where
  K : PySem.W.Frag
  st : Addr
  F0 : Hp
  H0 : Hp
structure OwnAt (g : G) (Hs F H : Hp) (a : Addr) (xs : List D) : Prop where
  ns : a ≠ g.st
  new : Hs a = none
  nf : F a = none
  at' : ∃ vs, H a = some (.lst vs) ∧ RepL g.K F xs vs
def NotOwn (env : En) (σ : St) (a : Addr) : Prop := ∀ (i : Nat) (xs : List D), env[i]? = some (some (.own xs)) → σ[i]? ≠ some (some (.ref a))
structure Ok (g : G) (T : Nat) (F : Hp) (env : En) (σ : St) (H : Hp) : Prop where
  grow : Grow g.st g.F0 g.H0 F H
  sto : StoreAt g.K g.st T F H
  len : σ.length = env.length
  val : ∀ (i : Nat) (d : D), env[i]? = some (some (.val d)) → ∃ v, σ[i]? = some (some v) ∧ Rep g.K F d v
  stor : ∀ (i : Nat), env[i]? = some (some .sto) → σ[i]? = some (some (.ref g.st))
  own : ∀ (i : Nat) (xs : List D), env[i]? = some (some (.own xs)) → ∃ a, σ[i]? = some (some (.ref a)) ∧ OwnAt g g.H0 F H a xs
  dis : ∀ (i j : Nat) (xs ys : List D), i ≠ j → env[i]? = some (some (.own xs)) → env[j]? = some (some (.own ys)) → σ[i]? ≠ σ[j]?
def RepR (g : G) (Hs F H : Hp) (env : En) (σ : St) : RV → V → Prop
  | .val d, v => Rep g.K F d v
  | .sto, v => v = .ref g.st
  | .own xs, v => ∃ a, v = .ref a ∧ OwnAt g Hs F H a xs ∧ NotOwn env σ a
  | .bor xs, v => ∃ i : Nat, env[i]? = some (some (.own xs)) ∧ σ[i]? = some (some v)
theorem OwnAt.grow {g : G} {Hs F H F' H' : Hp} {a : Addr} {xs : List D} (h : OwnAt g Hs F H a xs) (w : Grow g.st F H F' H') : OwnAt g Hs F' H' a xs := by
  obtain ⟨vs, h1, h2⟩ := h.at'
  exact ⟨h.ns, h.new, w.nf a h.nf (by rw [h1]; exact fun z => nomatch z), vs, w.hh a _ h.ns h1, RepL.mono w.ff h2⟩
theorem Ok.up {g : G} {T T' : Nat} {F H : Hp} {env : En} {σ : St} (h : Ok g T F env σ H) (l : T ≤ T') : Ok g T' F env σ H := ⟨h.grow, h.sto.up l, h.len, h.val, h.stor, h.own, h.dis⟩
theorem Ok.fh {g : G} {T : Nat} {F H : Hp} {env : En} {σ : St} (h : Ok g T F env σ H) : Ex F H := h.grow.fh
theorem Ok.refl {g : G} {T : Nat} {F H : Hp} {env : En} {σ : St} (h : Ok g T F env σ H) : Grow g.st F H F H := Grow.refl h.fh h.sto.free
theorem Ok.grown {g : G} {T T' : Nat} {F H F' H' : Hp} {env : En} {σ : St} (h : Ok g T F env σ H) (w : Grow g.st F H F' H') (s : StoreAt g.K g.st T' F' H') : Ok g T' F' env σ H' :=
  ⟨h.grow.trans w, s, h.len, fun i d e => by
    obtain ⟨v, a, b⟩ := h.val i d e
    exact ⟨v, a, b.mono w.ff⟩, h.stor, fun i xs e => by
    obtain ⟨a, b, c⟩ := h.own i xs e
    exact ⟨a, b, c.grow w⟩, h.dis⟩
theorem Grow.new {st : Addr} {F H : Hp} {p : Addr} {o : HO} (e : Ex F H) (s : F st = none) (h : H p = none) : Grow st F H F (upd H p o) :=
  ⟨Evl.Ex.refl F, e.trans (Evl.Ex.new h), fun b x _ q => Evl.Ex.new h b x q, fun _ q _ => q, s⟩
theorem Grow.newF {st : Addr} {F H : Hp} {p : Addr} {o : HO} (e : Ex F H) (s : F st = none) (hs : H st ≠ none) (h : H p = none) : Grow st F H (upd F p o) (upd H p o) := by
  have fp : F p = none := Evl.fresh_back e h
  have ne : st ≠ p := fun z => hs (by rw [z]; exact h)
  refine ⟨Evl.Ex.new fp, fun b x q => ?_, fun b x _ q => Evl.Ex.new h b x q, fun b q r => ?_, ?_⟩
  · by_cases z : b = p
    · subst z
      rw [upd_same] at q ⊢
      exact q
    · rw [upd_ne z] at q ⊢
      exact e b x q
  · by_cases z : b = p
    · subst z
      exact absurd h r
    · rw [upd_ne z]
      exact q
  · rw [upd_ne ne]
    exact s
theorem StoreAt.new {K : PySem.W.Frag} {st : Addr} {T : Nat} {F H : Hp} {p : Addr} {o : HO} (s : StoreAt K st T F H) (h : H p = none) : StoreAt K st T F (upd H p o) :=
  s.to (Evl.Ex.refl F) (upd_ne fun z => s.some (by rw [z]; exact h)) s.free
theorem StoreAt.newF {K : PySem.W.Frag} {st : Addr} {T : Nat} {F H : Hp} {p : Addr} {o : HO} (e : Ex F H) (s : StoreAt K st T F H) (h : H p = none) : StoreAt K st T (upd F p o) (upd H p o) := by
  have ne : st ≠ p := fun z => s.some (by rw [z]; exact h)
  exact s.to (Evl.Ex.new (Evl.fresh_back e h)) (upd_ne ne) (by rw [upd_ne ne]; exact s.free)
section
variable {g : G} {T T' : Nat} {Hs F H F' H' : Hp} {env : En} {σ : St} {r : RV} {v : V} {p : Addr}
theorem Ok.new {o : HO} (k : Ok g T F env σ H) (h : H p = none) : Ok g T F env σ (upd H p o) := k.grown (Grow.new k.fh k.sto.free h) (k.sto.new h)
theorem Ok.newF {o : HO} (k : Ok g T F env σ H) (h : H p = none) : Ok g T (upd F p o) env σ (upd H p o) := k.grown (Grow.newF k.fh k.sto.free k.sto.some h) (k.sto.newF k.fh h)
theorem Ok.notOwn (k : Ok g T F env σ H) (h : H p = none) : NotOwn env σ p := fun i xs e q => by
  obtain ⟨a, h1, h2⟩ := k.own i xs e
  obtain ⟨vs, h3, _⟩ := h2.at'
  rw [h1] at q
  cases q
  rw [h] at h3
  cases h3
theorem RepR.grow (h : RepR g Hs F H env σ r v) (w : Grow g.st F H F' H') : RepR g Hs F' H' env σ r v := by
  cases r with
  | val d => exact Rep.mono w.ff h
  | sto => exact h
  | own xs =>
    obtain ⟨a, h1, h2, h3⟩ := h
    exact ⟨a, h1, h2.grow w, h3⟩
  | bor xs => exact h
theorem OwnAt.since {Hr Fr : Hp} {a : Addr} {xs : List D} (w : Grow g.st Fr Hr F' Hs) (h : OwnAt g Hs F H a xs) : OwnAt g Hr F H a xs := by
  refine ⟨h.ns, ?_, h.nf, h.at'⟩
  cases q : Hr a with
  | none => rfl
  | some x =>
    have z := w.hh a x h.ns q
    rw [h.new] at z
    exact nomatch z
theorem RepR.since {Hr Fr : Hp} (w : Grow g.st Fr Hr F' Hs) (h : RepR g Hs F H env σ r v) : RepR g Hr F H env σ r v := by
  cases r with
  | val d => exact h
  | sto => exact h
  | own xs =>
    obtain ⟨a, h1, h2, h3⟩ := h
    exact ⟨a, h1, h2.since w, h3⟩
  | bor xs => exact h
theorem RepR.made {xs : List D} {vs : List V} (k : Ok g T F env σ H) (h : H p = none) (r : RepL g.K F xs vs) : RepR g H F (upd H p (.lst vs)) env σ (.own xs) (.ref p) :=
  ⟨p, rfl, ⟨fun z => k.sto.some (by rw [← z]; exact h), h, Evl.fresh_back k.fh h, vs, upd_same, r⟩, k.notOwn h⟩
theorem RepR.freeze {Fs : Hp} {xs : List D} (w0 : Grow g.st g.F0 g.H0 Fs Hs) (w : Grow g.st Fs Hs F H) (k : Ok g T F env σ H) (h : RepR g Hs F H env σ (.own xs) v) :
    ∃ F', Grow g.st Fs Hs F' H ∧ Ok g T F' env σ H ∧ Rep g.K F' (.lst xs) v ∧ Ex F F' := by
  obtain ⟨a, rfl, o, h3⟩ := h
  have n0 := (o.since w0).new
  obtain ⟨n1, n2, n3, vs, n4, n5⟩ := o
  have ef : Ex F (upd F a (.lst vs)) := Evl.Ex.new n3
  have eh : Ex (upd F a (.lst vs)) H := fun b x q => by
    by_cases z : b = a
    · subst z
      rw [upd_same] at q
      cases q
      exact n4
    · rw [upd_ne z] at q
      exact k.fh b x q
  have gr : ∀ {Fr Hr : Hp}, Hr a = none → Grow g.st Fr Hr F H → Grow g.st Fr Hr (upd F a (.lst vs)) H := fun hn w => ⟨w.ff.trans ef, eh, w.hh, fun b q r => by
    have ne : b ≠ a := fun z => r (by rw [z]; exact hn)
    rw [upd_ne ne]
    exact w.nf b q r, by
    rw [upd_ne n1.symm]
    exact w.sf⟩
  refine ⟨upd F a (.lst vs), gr n2 w, ⟨gr n0 k.grow, k.sto.to ef rfl (by rw [upd_ne n1.symm]; exact k.sto.free), k.len, fun i d e => ?_, k.stor, fun i ys e => ?_, k.dis⟩, ?_, ef⟩
  · obtain ⟨v, a, b⟩ := k.val i d e
    exact ⟨v, a, b.mono ef⟩
  · obtain ⟨b, e1, e2⟩ := k.own i ys e
    have ne : b ≠ a := fun z => h3 i ys e (by rw [← z]; exact e1)
    obtain ⟨vs', e3, e4⟩ := e2.at'
    exact ⟨b, e1, e2.ns, e2.new, by rw [upd_ne ne]; exact e2.nf, vs', e3, e4.mono ef⟩
  · simp only [Rep]
    exact ⟨a, vs, rfl, upd_same, n5.mono ef⟩
end
end DL
namespace DL
open PySem PySem.Spec L2
structure Exc where
  C : Addr
  ns : List Str
  xs : List D
def RepX (K : PySem.W.Frag) (F : Hp) (x : Exc) (d : Option Addr) : Prop := (x.ns = [] ∧ x.xs = [] ∧ d = none) ∨ ∃ dd vs, d = some dd ∧ F dd = some (.xd (x.ns.zip vs)) ∧ x.ns.length = vs.length ∧ RepL K F x.xs vs
abbrev ED := En → (RV → Prop) → (Exc → Prop) → Prop
abbrev TD := En → (Bool → Prop) → (Exc → Prop) → Prop
abbrev AD := En → (List RV → Prop) → (Exc → Prop) → Prop
def MonoE {α : Type} (f : En → (α → Prop) → (Exc → Prop) → Prop) : Prop := ∀ env Q Q' E E', (∀ r, Q r → Q' r) → (∀ x, E x → E' x) → f env Q E → f env Q' E'
def okE (g : G) (T c : Nat) (F : Hp) (env : En) (σ : St) (H : Hp) (Q : VK) : RV → Prop := fun r => ∀ F' H' v, Grow g.st F H F' H' → Ok g (T + c) F' env σ H' → RepR g H F' H' env σ r v → Q v H'
def okT (g : G) (T c : Nat) (F : Hp) (env : En) (σ : St) (H : Hp) (Q : Bool → Hp → Prop) : Bool → Prop := fun r => ∀ F' H', Grow g.st F H F' H' → Ok g (T + c) F' env σ H' → Q r H'
def RepRs (g : G) (Hs F H : Hp) (env : En) (σ : St) : List RV → List V → Prop
  | [], vs => vs = []
  | r :: rs, vs => ∃ v w, vs = v :: w ∧ RepR g Hs F H env σ r v ∧ RepRs g Hs F H env σ rs w
def okA (g : G) (T c : Nat) (F : Hp) (env : En) (σ : St) (H : Hp) (Q : List V → Hp → Prop) : List RV → Prop := fun rs => ∀ F' H' vs, Grow g.st F H F' H' → Ok g (T + c) F' env σ H' → RepRs g H F' H' env σ rs vs → Q vs H'
def exE (g : G) (T c : Nat) (F : Hp) (env : En) (σ : St) (H : Hp) (W : WX) : Exc → Prop := fun x => ∀ F' H' d, Grow g.st F H F' H' → Ok g (T + c) F' env σ H' → RepX g.K F' x d → W (.ref x.C) d σ H'
def tD (g : G) (W : WX) (c : Nat) (f : ED) : TE := fun σ H Q => ∃ T F env, T + c ≤ T + c ∧ Ok g T F env σ H ∧ f env (okE g T c F env σ H Q) (exE g T c F env σ H W)
def tDT (g : G) (W : WX) (c : Nat) (f : TD) : TT := fun σ H Q => ∃ T F env, T + c ≤ T + c ∧ Ok g T F env σ H ∧ f env (okT g T c F env σ H Q) (exE g T c F env σ H W)
def tDA (g : G) (W : WX) (c : Nat) (f : AD) : TA := fun σ H Q => ∃ T F env, T + c ≤ T + c ∧ Ok g T F env σ H ∧ f env (okA g T c F env σ H Q) (exE g T c F env σ H W)
structure Cy (X : Cx) (g : G) (W : WX) : Prop where
  k : X.K = g.K
  tk : L2N.Takes X W
  un : X.A.units + 66 < cLine
  po : PassesOwn (model X.prog X.w) X.A X.env X.xe
structure DE (X : Cx) (g : G) (W : WX) (c : Nat) (e : Expr) (f : ED) : Prop where
  pe : PE X e (tD g W c f)
  mono : MonoE f
structure DT (X : Cx) (g : G) (W : WX) (c : Nat) (e : Expr) (f : TD) : Prop where
  pt : PT X e (tDT g W c f)
  mono : MonoE f
structure DA (X : Cx) (g : G) (W : WX) (c : Nat) (es : List Expr) (f : AD) : Prop where
  pa : PA X es (tDA g W c f)
  mono : MonoE f
theorem PEimp {X : Cx} {e : Expr} {t t' : TE} (h : PE X e t) (i : ∀ σ H Q, t' σ H Q → t σ H Q) : PE X e t' := ⟨fun pins s σ H Q I q => h.run pins s σ H Q I (i σ H Q q)⟩
theorem PTimp {X : Cx} {e : Expr} {t t' : TT} (h : PT X e t) (i : ∀ σ H Q, t' σ H Q → t σ H Q) : PT X e t' := ⟨fun pins s σ H Q I q => h.run pins s σ H Q I (i σ H Q q)⟩
theorem PAimp {X : Cx} {e : List Expr} {t t' : TA} (h : PA X e t) (i : ∀ σ H Q, t' σ H Q → t σ H Q) : PA X e t' := ⟨fun pos pins s σ H Q I q => h.run pos pins s σ H Q I (i σ H Q q)⟩
section
variable {X : Cx} {g : G} {W : WX} {T T' ca cb cc : Nat} {F H F1 H1 : Hp} {env : En} {σ : St} {fa fb fc : ED} {ta tb : TD}
theorem exE.le (h : ∀ T' : Nat, True) (l : ca ≤ cb) : ∀ x, exE g T cb F env σ H W x → exE g T ca F env σ H W x := fun x e F' H' d w o r => e F' H' d w (o.up (by omega)) r
theorem exE.shift (w : Grow g.st F H F1 H1) (l : T' + cb ≤ T + cc) : ∀ x, exE g T cc F env σ H W x → exE g T' cb F1 env σ H1 W x := fun x e F' H' d w' o r => e F' H' d (w.trans w') (o.up l) r
theorem run_e {k : VK} {P : RV → Prop} {E0 : Exc → Prop} (ok : Ok g T F env σ H) (hT : T + ca ≤ T + ca) (ma : MonoE fa) (h : fa env P E0)
    (hP : ∀ r, P r → okE g T ca F env σ H k r) (hE : ∀ x, E0 x → exE g T ca F env σ H W x) : tD g W ca fa σ H k := ⟨T, F, env, hT, ok, ma env _ _ _ _ hP hE h⟩
theorem run_t {k : Bool → Hp → Prop} {P : Bool → Prop} {E0 : Exc → Prop} (ok : Ok g T F env σ H) (hT : T + ca ≤ T + ca) (ma : MonoE ta) (h : ta env P E0)
    (hP : ∀ r, P r → okT g T ca F env σ H k r) (hE : ∀ x, E0 x → exE g T ca F env σ H W x) : tDT g W ca ta σ H k := ⟨T, F, env, hT, ok, ma env _ _ _ _ hP hE h⟩
theorem run_a {fa : AD} {k : List V → Hp → Prop} {P : List RV → Prop} {E0 : Exc → Prop} (ok : Ok g T F env σ H) (hT : T + ca ≤ T + ca) (ma : MonoE fa) (h : fa env P E0)
    (hP : ∀ r, P r → okA g T ca F env σ H k r) (hE : ∀ x, E0 x → exE g T ca F env σ H W x) : tDA g W ca fa σ H k := ⟨T, F, env, hT, ok, ma env _ _ _ _ hP hE h⟩
def frz (f : ED) : ED := fun env Q E => f env (fun r => match r with | .own xs => Q (.val (.lst xs)) | r => Q r) E
theorem DE.frz {e : Expr} (h : DE X g W ca e fa) : DE X g W ca e (frz fa) := by
  refine ⟨PEimp h.pe fun σ H Q ⟨T, F, env, hT, ok, q⟩ => ?_, fun env Q Q' E E' hq he => h.mono env _ _ _ _ (fun r q => ?_) he⟩
  · refine ⟨T, F, env, hT, ok, h.mono env _ _ _ _ (fun r q => ?_) (fun x e => e) q⟩
    cases r with
    | own xs =>
      intro F' H' v w o rr
      obtain ⟨F2, w2, o2, r2, _⟩ := rr.freeze ok.grow w o
      exact q F2 H' v w2 o2 r2
    | val d => exact q
    | bor xs => exact q
    | sto => exact q
  · cases r with
    | own xs => exact hq _ q
    | val d => exact hq _ q
    | bor xs => exact hq _ q
    | sto => exact hq _ q
def eVar (i : Nat) : ED := fun env Q _ => match env[i]? with
  | some (some (.val d)) => Q (.val d)
  | some (some (.own xs)) => Q (.bor xs)
  | some (some .sto) => Q .sto
  | _ => False
theorem de_var (i : Nat) {x : Str} {pos : Pos} (hN : X.N[i]? = some x := by rfl) (hv : Vis X.env.scope x := by first | exact Or.inl rfl | exact Or.inr (Or.inl rfl) | exact Or.inr (Or.inr rfl)) (hd : (x == ("__debug__" : Str)) = false := by decide)
    (hcd : (x == ("__classdict__" : Str)) = false := by decide) : DE X g W 0 (.Name x pos) (eVar i) := by
  refine ⟨PEimp (pe_var hN hv hd hcd) fun σ H Q ⟨T, F, env, hT, ok, q⟩ => ?_, fun env Q Q' E E' hq he q => ?_⟩
  · unfold eVar at q
    split at q
    · rename_i d e
      obtain ⟨v, h1, h2⟩ := ok.val i d e
      exact ⟨v, h1, q F H v ok.refl ok h2⟩
    · rename_i xs e
      obtain ⟨a, h1, h2⟩ := ok.own i xs e
      exact ⟨_, h1, q F H _ ok.refl ok ⟨i, e, h1⟩⟩
    · rename_i e
      exact ⟨_, ok.stor i e, q F H _ ok.refl ok rfl⟩
    · exact q.elim
  · unfold eVar at q ⊢
    split
    · rename_i d e; rw [e] at q; exact hq _ q
    · rename_i d e; rw [e] at q; exact hq _ q
    · rename_i e; rw [e] at q; exact hq _ q
    · rename_i h1 h2 h3
      revert q
      split
      · rename_i d e; exact absurd e (h1 d)
      · rename_i d e; exact absurd e (h2 d)
      · rename_i e; exact absurd e h3
      · exact id
def eC (d : D) : ED := fun _ Q _ => Q (.val d)
theorem mono_C {d : D} : MonoE (eC d) := fun env Q Q' E E' hq he q => hq _ q
theorem de_c {e : Expr} {v : V} {d : D} (h : PE X e (tC v)) (r : ∀ F, Rep g.K F d v) : DE X g W 0 e (eC d) :=
  ⟨PEimp h fun σ H Q ⟨T, F, env, hT, ok, q⟩ => q F H v ok.refl ok (r F), mono_C⟩
theorem de_int {i j pos} : DE X g W 0 (.Constant (.int i) j pos) (eC (.int i)) := de_c pe_int fun F => by simp only [Rep]
theorem de_bl {i j pos} : DE X g W 0 (.Constant (.bool i) j pos) (eC (.bl i)) := de_c pe_bl fun F => by simp only [Rep]
theorem de_non {j pos} : DE X g W 0 (.Constant .none j pos) (eC .non) := de_c pe_non fun F => by simp only [Rep]
theorem de_str {i j pos} : DE X g W 0 (.Constant (.str i) j pos) (eC (.str i)) := de_c pe_str fun F => by simp only [Rep]
theorem de_gint {x : Str} {i : Int} {t : Tok} {pos : Pos} (hg : Gl X x) (hm : X.mg x = some (.int i t)) (hd : (x == ("__debug__" : Str)) = false := by decide) : DE X g W 0 (.Name x pos) (eC (.int i)) :=
  de_c (pe_glob (v := .int i) hg hm ⟨t, rfl⟩ hd) fun F => by simp only [Rep]
theorem de_gstr {x : Str} {i : Str} {t : Tok} {pos : Pos} (hg : Gl X x) (hm : X.mg x = some (.str i t)) (hd : (x == ("__debug__" : Str)) = false := by decide) : DE X g W 0 (.Name x pos) (eC (.str i)) :=
  de_c (pe_glob (v := .str i) hg hm ⟨t, rfl⟩ hd) fun F => by simp only [Rep]
theorem de_gcls {x : Str} {C : Addr} {pos : Pos} (hg : Gl X x) (hm : X.mg x = some (.ref C)) (hd : (x == ("__debug__" : Str)) = false := by decide) : DE X g W 0 (.Name x pos) (eC (.cls C)) :=
  de_c (pe_glob (v := .ref C) hg hm rfl hd) fun F => by simp only [Rep]
theorem de_ty {x : Str} {n : String} {pos : Pos} (hg : Gl X x) (hm : X.mg x = none) (hv : bootBuiltins x = some (.type n)) (hn : x ≠ "__name__" := by decide) (hd : (x == ("__debug__" : Str)) = false := by decide) : DE X g W 0 (.Name x pos) (eC (.ty n)) :=
  de_c (pe_bltn (v := .ty n) hg hm hv rfl hn hd) fun F => by simp only [Rep]
abbrev Q2 := RV → RV → (RV → Prop) → Prop
def OpD (g : G) (r : R2) (q : Q2) : Prop := ∀ {T : Nat} {F : Hp} {env : En} {σ : St} {H Hs : Hp} {x y : RV} {v w : V} {Q : RV → Prop} {Qv : VK},
  Ok g T F env σ H → RepR g Hs F H env σ x v → RepR g Hs F H env σ y w → q x y Q → (∀ z F' H' u, Q z → Grow g.st F H F' H' → Ok g T F' env σ H' → RepR g H F' H' env σ z u → Qv u H') → r v w H Qv
def MonoQ2 (q : Q2) : Prop := ∀ x y Q Q', (∀ r, Q r → Q' r) → q x y Q → q x y Q'
def eOp (q : Q2) (fa fb : ED) : ED := fun env Q E => frz fa env (fun x => frz fb env (fun y => q x y Q) E) E
theorem mono_op {q : Q2} (mq : MonoQ2 q) (ha : MonoE (frz fa)) (hb : MonoE (frz fb)) : MonoE (eOp q fa fb) := fun env Q Q' E E' hq he h =>
  ha env _ _ _ _ (fun x hx => hb env _ _ _ _ (fun y hy => mq x y Q Q' hq hy) he hx) he h
theorem sem_op {r : R2} {q : Q2} {a b : Expr} (hq : OpD g r q) (ha : DE X g W ca a fa) (hb : DE X g W cb b fb) {σ : St} {H : Hp} {Q : VK} (h : tD g W (ca + cb) (eOp q fa fb) σ H Q) : tOp r (tD g W ca (frz fa)) (tD g W cb (frz fb)) σ H Q := by
  obtain ⟨T, F, env, hT, ok, h⟩ := h
  refine run_e ok (by omega) ha.frz.mono h (fun x hx F1 H1 v w o rx => ?_) (exE.shift ok.refl (by omega))
  refine run_e o (by omega) hb.frz.mono hx (fun y hy F2 H2 v2 w2 o2 ry => ?_) (exE.shift w (by omega))
  exact hq o2 (rx.grow w2) (ry.since w) hy fun z F' H' u qz w3 o3 rz => qz F' H' u (w.trans (w2.trans w3)) (by rw [← Nat.add_assoc]; exact o3) (rz.since (w.trans w2))
theorem de_op {op : Operator} {r : R2} {q : Q2} {a b : Expr} {pos : Pos} (ho : OpR X (binaryOp op) r) (hq : OpD g r q) (mq : MonoQ2 q) (ha : DE X g W ca a fa) (hb : DE X g W cb b fb) :
    DE X g W (ca + cb) (.BinOp a op b pos) (eOp q fa fb) := ⟨PEimp (pe_op ho ha.frz.pe hb.frz.pe) fun σ H Q h => sem_op hq ha hb h, mono_op mq ha.frz.mono hb.frz.mono⟩
theorem de_cmp {op : CmpOp} {r : R2} {q : Q2} {a b : Expr} {pos : Pos} (ho : OpR X (compareOp op) r) (hq : OpD g r q) (mq : MonoQ2 q) (ha : DE X g W ca a fa) (hb : DE X g W cb b fb) (hm : behindInMarks op b = false := by rfl) :
    DE X g W (ca + cb) (.Compare a [op] [b] pos) (eOp q fa fb) := ⟨PEimp (pe_cmpR ho ha.frz.pe hb.frz.pe hm) fun σ H Q h => sem_op hq ha hb h, mono_op mq ha.frz.mono hb.frz.mono⟩
theorem de_ix {r : R2} {q : Q2} {a b : Expr} {pos : Pos} (ho : IxR X r) (hq : OpD g r q) (mq : MonoQ2 q) (ha : DE X g W ca a fa) (hb : DE X g W cb b fb) (hs : PlainIx b := by exact fun _ _ => rfl) :
    DE X g W (ca + cb) (.Subscript a b pos) (eOp q fa fb) := ⟨PEimp (pe_ix ho ha.frz.pe hb.frz.pe hs) fun σ H Q h => sem_op hq ha hb h, mono_op mq ha.frz.mono hb.frz.mono⟩
theorem opR_or {f : Value → Value → Sem Value} {r r' : R2} (h : OpR X f r) (h' : OpR X f r') : OpR X f (fun x y H Q => r x y H Q ∨ r' x y H Q) := fun pins s σ H x y v u Q I rx ry q => by
  rcases q with q | q
  · exact h pins s σ H x y v u Q I rx ry q
  · exact h' pins s σ H x y v u Q I rx ry q
def tBool (f : ED) : TD := fun env Q E => f env (fun r => match r with | .val (.bl b) => Q b | _ => False) E
theorem mono_bool (h : MonoE fa) : MonoE (tBool fa) := fun env Q Q' E E' hq he q => h env _ _ _ _ (fun r q => by
  split at q
  · exact hq _ q
  · exact q.elim) he q
theorem dt_cmp {op : CmpOp} {r : R2} {q : Q2} {a b : Expr} {pos : Pos} (ho : OpR X (compareOp op) r) (hq : OpD g r q) (mq : MonoQ2 q) (ha : DE X g W ca a fa) (hb : DE X g W cb b fb) (hm : behindInMarks op b = false := by rfl) :
    DT X g W (ca + cb) (.Compare a [op] [b] pos) (tBool (eOp q fa fb)) := by
  refine ⟨PTimp (pt_cmpR ho ha.frz.pe hb.frz.pe hm) fun σ H Q h => ?_, mono_bool (mono_op mq ha.frz.mono hb.frz.mono)⟩
  refine sem_op hq ha hb ?_
  obtain ⟨T, F, env, hT, ok, h⟩ := h
  refine ⟨T, F, env, hT, ok, mono_op mq ha.frz.mono hb.frz.mono env _ _ _ _ (fun r q F' H' v w o rr => ?_) (fun x e => e) h⟩
  split at q
  · rename_i b
    simp only [RepR, Rep] at rr
    exact ⟨b, rr, q F' H' w o⟩
  · exact q.elim
def tAndD (ta tb : TD) : TD := fun env Q E => ta env (fun b => if b = true then tb env Q E else Q false) E
def tOrD (ta tb : TD) : TD := fun env Q E => ta env (fun b => if b = true then Q true else tb env Q E) E
def tNotD (ta : TD) : TD := fun env Q E => ta env (fun b => Q (!b)) E
theorem mono_and (ha : MonoE ta) (hb : MonoE tb) : MonoE (tAndD ta tb) := fun env Q Q' E E' hq he q => ha env _ _ _ _ (fun b q => by
  cases b with
  | true => exact hb env _ _ _ _ hq he q
  | false => exact hq _ q) he q
theorem mono_or (ha : MonoE ta) (hb : MonoE tb) : MonoE (tOrD ta tb) := fun env Q Q' E E' hq he q => ha env _ _ _ _ (fun b q => by
  cases b with
  | true => exact hq _ q
  | false => exact hb env _ _ _ _ hq he q) he q
theorem mono_not (ha : MonoE ta) : MonoE (tNotD ta) := fun env Q Q' E E' hq he q => ha env _ _ _ _ (fun b q => hq _ q) he q
structure DW (X : Cx) (g : G) (W : WX) (c : Nat) (e : Expr) (f : TD) : Prop where
  pw : PW X e (tDT g W c f)
  mono : MonoE f
theorem PWimp {X : Cx} {e : Expr} {t t' : TT} (h : PW X e t) (i : ∀ σ H Q, t' σ H Q → t σ H Q) : PW X e t' := ⟨fun wh pins s σ H Q I q => h.run wh pins s σ H Q I (i σ H Q q)⟩
theorem DW.dt {e : Expr} (h : DW X g W ca e ta) : DT X g W ca e ta := ⟨h.pw.pt, h.mono⟩
theorem dw_and1 {a : Expr} {pos : Pos} (h : DT X g W ca a ta) : DW X g W ca (.BoolOp .And [a] pos) ta := ⟨pw_and1 h.pt, h.mono⟩
theorem dw_or1 {a : Expr} {pos : Pos} (h : DT X g W ca a ta) : DW X g W ca (.BoolOp .Or [a] pos) ta := ⟨pw_or1 h.pt, h.mono⟩
theorem dw_and {a b : Expr} {rest : List Expr} {pos : Pos} (ha : DT X g W ca a ta) (hb : DW X g W cb (.BoolOp .And (b :: rest) pos) tb) : DW X g W (ca + cb) (.BoolOp .And (a :: b :: rest) pos) (tAndD ta tb) := by
  refine ⟨PWimp (pw_and ha.pt hb.pw) fun σ H Q ⟨T, F, env, hT, ok, h⟩ => ?_, mono_and ha.mono hb.mono⟩
  refine run_t ok (by omega) ha.mono h (fun x hx F1 H1 w o => ?_) (exE.shift ok.refl (by omega))
  cases x with
  | true => exact run_t o (by omega) hb.mono hx (fun y hy F2 H2 w2 o2 => hy F2 H2 (w.trans w2) (by rw [← Nat.add_assoc]; exact o2)) (exE.shift w (by omega))
  | false => exact hx F1 H1 w (o.up (by omega))
theorem dw_or {a b : Expr} {rest : List Expr} {pos : Pos} (ha : DT X g W ca a ta) (hb : DW X g W cb (.BoolOp .Or (b :: rest) pos) tb) : DW X g W (ca + cb) (.BoolOp .Or (a :: b :: rest) pos) (tOrD ta tb) := by
  refine ⟨PWimp (pw_or ha.pt hb.pw) fun σ H Q ⟨T, F, env, hT, ok, h⟩ => ?_, mono_or ha.mono hb.mono⟩
  refine run_t ok (by omega) ha.mono h (fun x hx F1 H1 w o => ?_) (exE.shift ok.refl (by omega))
  cases x with
  | false => exact run_t o (by omega) hb.mono hx (fun y hy F2 H2 w2 o2 => hy F2 H2 (w.trans w2) (by rw [← Nat.add_assoc]; exact o2)) (exE.shift w (by omega))
  | true => exact hx F1 H1 w (o.up (by omega))
theorem dt_not {a : Expr} {pos : Pos} (ha : DT X g W ca a ta) : DT X g W ca (.UnaryOp .Not a pos) (tNotD ta) := by
  refine ⟨PTimp (pt_not ha.pt) fun σ H Q ⟨T, F, env, hT, ok, h⟩ => ?_, mono_not ha.mono⟩
  exact run_t ok (by omega) ha.mono h (fun x hx F1 H1 w o => hx F1 H1 w o) (exE.shift ok.refl (by omega))
def eAnd (fa fb : ED) : ED := fun env Q E => fa env (fun r => match r with | .val (.bl b) => if b = true then fb env Q E else Q (.val (.bl false)) | _ => False) E
def eOr (fa fb : ED) : ED := fun env Q E => fa env (fun r => match r with | .val (.bl b) => if b = true then Q (.val (.bl true)) else fb env Q E | _ => False) E
def eNot (fa : ED) : ED := fun env Q E => fa env (fun r => match r with | .val (.bl b) => Q (.val (.bl (!b))) | _ => False) E
theorem mono_eand (ha : MonoE fa) (hb : MonoE fb) : MonoE (eAnd fa fb) := fun env Q Q' E E' hq he q => ha env _ _ _ _ (fun r q => by
  split at q
  · rename_i b
    cases b with
    | true => exact hb env _ _ _ _ hq he q
    | false => exact hq _ q
  · exact q.elim) he q
theorem mono_enot (ha : MonoE fa) : MonoE (eNot fa) := fun env Q Q' E E' hq he q => ha env _ _ _ _ (fun r q => by
  split at q
  · exact hq _ q
  · exact q.elim) he q
theorem de_one {op} {a : Expr} {pos : Pos} (h : DE X g W ca a fa) : DE X g W ca (.BoolOp op [a] pos) fa := ⟨pe_one h.pe, h.mono⟩
theorem de_and {a b : Expr} {rest : List Expr} {pos : Pos} (ha : DE X g W ca a fa) (hb : DE X g W cb (.BoolOp .And (b :: rest) pos) fb) : DE X g W (ca + cb) (.BoolOp .And (a :: b :: rest) pos) (eAnd fa fb) := by
  refine ⟨PEimp (pe_and ha.pe hb.pe) fun σ H Q ⟨T, F, env, hT, ok, h⟩ => ?_, mono_eand ha.mono hb.mono⟩
  refine run_e ok (by omega) ha.mono h (fun x hx F1 H1 v w o rx => ?_) (exE.shift ok.refl (by omega))
  split at hx
  · rename_i b
    simp only [RepR, Rep] at rx
    refine ⟨b, rx, ?_⟩
    cases b with
    | true => exact run_e o (by omega) hb.mono hx (fun y hy F2 H2 v2 w2 o2 ry => hy F2 H2 v2 (w.trans w2) (by rw [← Nat.add_assoc]; exact o2) (ry.since w)) (exE.shift w (by omega))
    | false => exact hx F1 H1 (.bl false) w (o.up (by omega)) (by simp only [RepR, Rep])
  · exact hx.elim
theorem de_not {a : Expr} {pos : Pos} (ha : DE X g W ca a fa) : DE X g W ca (.UnaryOp .Not a pos) (eNot fa) := by
  refine ⟨PEimp (pe_not ha.pe) fun σ H Q ⟨T, F, env, hT, ok, h⟩ => ?_, mono_enot ha.mono⟩
  refine run_e ok (by omega) ha.mono h (fun x hx F1 H1 v w o rx => ?_) (exE.shift ok.refl (by omega))
  split at hx
  · rename_i b
    simp only [RepR, Rep] at rx
    exact ⟨b, rx, hx F1 H1 (.bl (!b)) w o (by simp only [RepR, Rep])⟩
  · exact hx.elim
def aNil : AD := fun _ Q _ => Q []
def aCons (fa : ED) (fr : AD) : AD := fun env Q E => frz fa env (fun x => fr env (fun xs => Q (x :: xs)) E) E
theorem RepRs.grow {Hs F H F' H' : Hp} (w : Grow g.st F H F' H') : ∀ {rs : List RV} {vs : List V}, RepRs g Hs F H env σ rs vs → RepRs g Hs F' H' env σ rs vs
  | [], _, h => h
  | r :: rs, _, h => by
    obtain ⟨v, u, rfl, h1, h2⟩ := h
    exact ⟨v, u, rfl, h1.grow w, RepRs.grow w h2⟩
theorem RepRs.since {Hs F H F' Hr Fr : Hp} (w : Grow g.st Fr Hr F' Hs) : ∀ {rs : List RV} {vs : List V}, RepRs g Hs F H env σ rs vs → RepRs g Hr F H env σ rs vs
  | [], _, h => h
  | r :: rs, _, h => by
    obtain ⟨v, u, rfl, h1, h2⟩ := h
    exact ⟨v, u, rfl, h1.since w, RepRs.since w h2⟩
theorem da_nil : DA X g W 0 [] aNil := ⟨PAimp pa_nil fun σ H Q ⟨T, F, env, hT, ok, h⟩ => h F H [] ok.refl ok rfl, fun env Q Q' E E' hq he q => hq _ q⟩
theorem da_cons {e : Expr} {es : List Expr} {fr : AD} (ha : DE X g W ca e fa) (hr : DA X g W cb es fr) (hs : starEach (e :: es) X.env = (false, eval e X.env) :: starEach es X.env := by rfl) : DA X g W (ca + cb) (e :: es) (aCons fa fr) := by
  refine ⟨PAimp (pa_cons ha.frz.pe hr.pa hs) fun σ H Q ⟨T, F, env, hT, ok, h⟩ => ?_, fun env Q Q' E E' hq he h => ha.frz.mono env _ _ _ _ (fun x hx => hr.mono env _ _ _ _ (fun y hy => hq _ hy) he hx) he h⟩
  refine run_e ok (by omega) ha.frz.mono h (fun x hx F1 H1 v w o rx => ?_) (exE.shift ok.refl (by omega))
  refine run_a o (by omega) hr.mono hx (fun y hy F2 H2 v2 w2 o2 ry => ?_) (exE.shift w (by omega))
  exact hy F2 H2 (v :: v2) (w.trans w2) (by rw [← Nat.add_assoc]; exact o2) ⟨v, v2, rfl, rx.grow w2, ry.since w⟩
abbrev QC := List RV → (RV → Prop) → Prop
def CallD (g : G) (r : List V → Hp → VK → Prop) (q : QC) : Prop := ∀ {T : Nat} {F : Hp} {env : En} {σ : St} {H Hs : Hp} {xs : List RV} {vs : List V} {Q : RV → Prop} {Qv : VK},
  Ok g T F env σ H → RepRs g Hs F H env σ xs vs → q xs Q → (∀ z F' H' u, Q z → Grow g.st F H F' H' → Ok g T F' env σ H' → RepR g H F' H' env σ z u → Qv u H') → r vs H Qv
def MonoC (q : QC) : Prop := ∀ xs Q Q', (∀ r, Q r → Q' r) → q xs Q → q xs Q'
def eCall (q : QC) (fa : AD) : ED := fun env Q E => fa env (fun xs => q xs Q) E
theorem mono_call {q : QC} {fa : AD} (mq : MonoC q) (ha : MonoE fa) : MonoE (eCall q fa) := fun env Q Q' E E' hq he h => ha env _ _ _ _ (fun x hx => mq x Q Q' hq hx) he h
theorem sem_call {r : List V → Hp → VK → Prop} {q : QC} {fa : AD} {es : List Expr} (hq : CallD g r q) (ha : DA X g W ca es fa) {σ : St} {H : Hp} {Q : VK} (h : tD g W ca (eCall q fa) σ H Q) : tCB r (tDA g W ca fa) σ H Q := by
  obtain ⟨T, F, env, hT, ok, h⟩ := h
  refine run_a ok (by omega) ha.mono h (fun x hx F1 H1 v w o rx => ?_) (exE.shift ok.refl (by omega))
  exact hq o rx hx fun z F' H' u qz w3 o3 rz => qz F' H' u (w.trans w3) o3 (rz.since w)
theorem de_callB {id : String} {r : List V → Hp → VK → Prop} {q : QC} {fa : AD} {x : Str} {e : Expr} {es : List Expr} {p pos : Pos} (hc : CallR X (.builtin id) r) (hq : CallD g r q) (mq : MonoC q) (hg : Gl X x) (hm : X.mg x = none) (hv : bootBuiltins x = some (.builtin id)) (ha : DA X g W ca (e :: es) fa)
    (hn : x ≠ "__name__" := by decide) (hdb : (x == ("__debug__" : Str)) = false := by decide) (he : starEach (e :: es) X.env = (false, eval e X.env) :: starEach es X.env := by rfl) (hpl : (backTo pos (starEach es X.env)).any (·.1) = false := by rfl) :
    DE X g W ca (.Call (.Name x p) (e :: es) [] pos) (eCall q fa) := ⟨PEimp (pe_callB hc hg hm hv ha.pa hn hdb he hpl) fun σ H Q h => sem_call hq ha h, mono_call mq ha.mono⟩
theorem de_callTy {id : String} {r : List V → Hp → VK → Prop} {q : QC} {fa : AD} {x : Str} {e : Expr} {es : List Expr} {p pos : Pos} (hc : CallR X (.type id) r) (hq : CallD g r q) (mq : MonoC q) (hg : Gl X x) (hm : X.mg x = none) (hv : bootBuiltins x = some (.type id)) (ha : DA X g W ca (e :: es) fa)
    (hn : x ≠ "__name__" := by decide) (hdb : (x == ("__debug__" : Str)) = false := by decide) (he : starEach (e :: es) X.env = (false, eval e X.env) :: starEach es X.env := by rfl) (hpl : (backTo pos (starEach es X.env)).any (·.1) = false := by rfl) :
    DE X g W ca (.Call (.Name x p) (e :: es) [] pos) (eCall q fa) := ⟨PEimp (pe_callTy hc hg hm hv ha.pa hn hdb he hpl) fun σ H Q h => sem_call hq ha h, mono_call mq ha.mono⟩
end
end DL
namespace DL
open PySem PySem.Spec L2
abbrev LIM : Nat := 100000
theorem lim_line {n : Nat} (h : n ≤ LIM) : n ≤ sizeLine := Evl.sz_of h
theorem lim_lt {n : Nat} (h : n < LIM) : n < sizeLine := Evl.sz_lt h
def asD : RV → Option D
  | .val d => some d
  | .bor xs => some (.lst xs)
  | _ => none
def asSeq : RV → Option (List D)
  | .val (.tup xs) => some xs
  | .val (.lst xs) => some xs
  | .bor xs => some xs
  | _ => none
def asL : RV → Option (List D)
  | .val (.lst xs) => some xs
  | .bor xs => some xs
  | _ => none
section
variable {X : Cx} {g : G} {W : WX} {T : Nat} {F H Hs : Hp} {env : En} {σ : St} {x y r : RV} {v w : V} {xs ys : List D}
theorem asD_rep {d : D} (ok : Ok g T F env σ H) (h : asD x = some d) (r : RepR g Hs F H env σ x v) : Rep g.K H d v := by
  cases x with
  | val e =>
    simp only [asD, Option.some.injEq] at h
    subst h
    exact Rep.mono ok.fh r
  | bor ys =>
    simp only [asD, Option.some.injEq] at h
    subst h
    obtain ⟨i, e1, e2⟩ := r
    obtain ⟨a, e3, o⟩ := ok.own i ys e1
    rw [e2] at e3
    cases e3
    obtain ⟨vs, e4, e5⟩ := o.at'
    simp only [Rep]
    exact ⟨a, vs, rfl, e4, e5.mono ok.fh⟩
  | own ys => simp [asD] at h
  | sto => simp [asD] at h
theorem asL_rep (ok : Ok g T F env σ H) (h : asL x = some xs) (r : RepR g Hs F H env σ x v) : ∃ a vs, v = .ref a ∧ H a = some (.lst vs) ∧ RepL g.K F xs vs := by
  cases x with
  | val e =>
    cases e with
    | lst ys =>
      simp only [asL, Option.some.injEq] at h
      subst h
      simp only [RepR, Rep] at r
      obtain ⟨a, vs, h1, h2, h3⟩ := r
      exact ⟨a, vs, h1, ok.fh _ _ h2, h3⟩
    | _ => simp [asL] at h
  | bor ys =>
    simp only [asL, Option.some.injEq] at h
    subst h
    obtain ⟨i, e1, e2⟩ := r
    obtain ⟨a, e3, o⟩ := ok.own i ys e1
    rw [e2] at e3
    cases e3
    obtain ⟨vs, e4, e5⟩ := o.at'
    exact ⟨a, vs, rfl, e4, e5⟩
  | own ys => simp [asL] at h
  | sto => simp [asL] at h
theorem asSeq_rep (ok : Ok g T F env σ H) (h : asSeq x = some xs) (r : RepR g Hs F H env σ x v) : ∃ a vs, v = .ref a ∧ (SqL g.K H a vs ∨ SqT g.K H a vs) ∧ RepL g.K F xs vs := by
  cases x with
  | val e =>
    cases e with
    | lst ys =>
      obtain ⟨a, vs, h1, h2, h3⟩ := asL_rep (x := .val (.lst ys)) (xs := xs) ok (by simpa [asSeq, asL] using h) r
      exact ⟨a, vs, h1, .inl (.inl (.inl h2)), h3⟩
    | tup ys =>
      simp only [asSeq, Option.some.injEq] at h
      subst h
      simp only [RepR, Rep] at r
      obtain ⟨a, vs, h1, h2, h3⟩ := r
      exact ⟨a, vs, h1, .inr (Evl.ex_t ok.fh h2), h3⟩
    | _ => simp [asSeq] at h
  | bor ys =>
    obtain ⟨a, vs, h1, h2, h3⟩ := asL_rep (x := .bor ys) (xs := xs) ok (by simpa [asSeq, asL] using h) r
    exact ⟨a, vs, h1, .inl (.inl (.inl h2)), h3⟩
  | own ys => simp [asSeq] at h
  | sto => simp [asSeq] at h
def flat : D → Option V
  | .non => some .non
  | .bl b => some (.bl b)
  | .int i => some (.int i)
  | .str s => some (.str s)
  | _ => none
theorem flat_rep {K : PySem.W.Frag} {d : D} (h : flat d = some w) (r : Rep K F d v) : v = w := by
  cases d <;> simp only [flat, Option.some.injEq, reduceCtorEq] at h <;> (simp only [Rep] at r; rw [r, h])
theorem flat_flatV {d : D} (h : flat d = some w) : flatV w = true := by
  cases d <;> simp only [flat, Option.some.injEq, reduceCtorEq] at h <;> (subst h; rfl)
def flats : List D → Option (List V)
  | [] => some []
  | d :: ds => match flat d, flats ds with
    | some v, some vs => some (v :: vs)
    | _, _ => none
theorem flats_rep {K : PySem.W.Frag} : ∀ {ds : List D} {vs ws : List V}, flats ds = some ws → RepL K F ds vs → vs = ws ∧ ws.all flatV = true
  | [], _, _, h, r => by
    simp only [flats, Option.some.injEq] at h
    simp only [RepL] at r
    subst h; subst r
    exact ⟨rfl, rfl⟩
  | d :: ds, _, _, h, r => by
    simp only [RepL] at r
    obtain ⟨v, u, rfl, h1, h2⟩ := r
    unfold flats at h
    split at h
    · rename_i a b e1 e2
      cases h
      obtain ⟨e3, e4⟩ := flats_rep e2 h2
      rw [flat_rep e1 h1, e3]
      exact ⟨rfl, by rw [List.all_cons, flat_flatV e1, e4]; rfl⟩
    · cases h
theorem flats_strs : ∀ (ss : List Str), flats (ss.map D.str) = some (ss.map V.str)
  | [] => rfl
  | s :: ss => by simp only [List.map_cons, flats, flat, flats_strs ss]
def rAddA (K : PySem.W.Frag) : R2 := fun x y H Q => ((rI0 fun i j => .int (i + j)) x y H Q ∨ (∃ i j, x = .str i ∧ y = .str j ∧ i.length + j.length ≤ sizeLine ∧ Q (.str (i ++ j)) H)) ∨ (rCatA K x y H Q ∨ rCat x y H Q)
theorem op_addA : OpR X (binaryOp .Add) (rAddA X.K) := opR_or (opR_or op_add op_add_str) (opR_or op_catA op_cat)
def addQ : Q2 := fun x y Q => match x, y with
  | .val (.int i), .val (.int j) => Q (.val (.int (i + j)))
  | .val (.str s), .val (.str t) => s.length + t.length ≤ LIM ∧ Q (.val (.str (s ++ t)))
  | .val (.tup xs), .val (.tup ys) => xs.length + ys.length ≤ LIM ∧ Q (.val (.tup (xs ++ ys)))
  | x, y => ∃ xs ys, asL x = some xs ∧ asL y = some ys ∧ xs.length + ys.length ≤ LIM ∧ Q (.own (xs ++ ys))
theorem mono_addQ : MonoQ2 addQ := fun x y Q Q' hq q => by
  unfold addQ at q ⊢
  split
  · exact hq _ q
  · exact ⟨q.1, hq _ q.2⟩
  · exact ⟨q.1, hq _ q.2⟩
  · split at q
    · simp_all
    · simp_all
    · simp_all
    · obtain ⟨xs, ys, h1, h2, h3, q⟩ := q
      exact ⟨xs, ys, h1, h2, h3, hq _ q⟩
theorem d_add : OpD g (rAddA g.K) addQ := by
  intro T F env σ H Hs x y v w Q Qv ok rx ry q k
  unfold addQ at q
  split at q
  · simp only [RepR, Rep] at rx ry
    exact .inl (.inl ⟨_, _, rx, ry, k _ F H _ q ok.refl ok (by simp only [RepR, Rep])⟩)
  · simp only [RepR, Rep] at rx ry
    exact .inl (.inr ⟨_, _, rx, ry, lim_line q.1, k _ F H _ q.2 ok.refl ok (by simp only [RepR, Rep])⟩)
  · rename_i xs ys
    have rx' := rx
    have ry' := ry
    simp only [RepR, Rep] at rx ry
    obtain ⟨a, vs, rfl, ha, hx⟩ := rx
    obtain ⟨b, ws, rfl, hb, hy⟩ := ry
    have l1 := hx.length
    have l2 := hy.length
    refine .inr (.inl ⟨a, b, vs, ws, rfl, rfl, Evl.ex_t ok.fh ha, Evl.ex_t ok.fh hb, lim_line (by rw [← l1, ← l2]; exact q.1), fun e => ?_, fun _ e => ?_, fun _ _ p hp => ?_⟩)
    · have e2 : xs = [] := by
        rw [e] at l1
        exact List.length_eq_zero_iff.mp l1
      subst e2
      exact k _ F H _ q.2 ok.refl ok ry'
    · have e2 : ys = [] := by
        rw [e] at l2
        exact List.length_eq_zero_iff.mp l2
      subst e2
      rw [List.append_nil] at q
      exact k _ F H _ q.2 ok.refl ok rx'
    · refine k _ _ _ _ q.2 (Grow.newF ok.fh ok.sto.free ok.sto.some hp) (ok.newF hp) ?_
      simp only [RepR, Rep]
      exact ⟨p, vs ++ ws, rfl, .inl (.inl upd_same), (hx.append hy).mono (Evl.Ex.new (Evl.fresh_back ok.fh hp))⟩
  · obtain ⟨xs, ys, h1, h2, h3, q⟩ := q
    obtain ⟨a, vs, rfl, ha, hx⟩ := asL_rep ok h1 rx
    obtain ⟨b, ws, rfl, hb, hy⟩ := asL_rep ok h2 ry
    refine .inr (.inr ⟨a, b, vs, ws, rfl, rfl, ha, hb, lim_line (by rw [← hx.length, ← hy.length]; exact h3), fun p hp => ?_⟩)
    exact k _ F _ _ q (Grow.new ok.fh ok.sto.free hp) (ok.new hp) (RepR.made ok hp (hx.append hy))
def intQ (C : Int → Int → Prop) (f : Int → Int → D) : Q2 := fun x y Q => match x, y with
  | .val (.int i), .val (.int j) => C i j ∧ Q (.val (f i j))
  | _, _ => False
theorem mono_intQ {C : Int → Int → Prop} {f : Int → Int → D} : MonoQ2 (intQ C f) := fun x y Q Q' hq q => by
  unfold intQ at q ⊢
  split
  · exact ⟨q.1, hq _ q.2⟩
  · split at q
    · simp_all
    · exact q
theorem d_int {C : Int → Int → Prop} {f : Int → Int → D} {f' : Int → Int → V} (h : ∀ i j F, Rep g.K F (f i j) (f' i j)) : OpD g (rI C f') (intQ C f) := by
  intro T F env σ H Hs x y v w Q Qv ok rx ry q k
  unfold intQ at q
  split at q
  · simp only [RepR, Rep] at rx ry
    exact ⟨_, _, rx, ry, q.1, k _ F H _ q.2 ok.refl ok (h _ _ F)⟩
  · exact q.elim
def int0Q (f : Int → Int → D) : Q2 := fun x y Q => match x, y with
  | .val (.int i), .val (.int j) => Q (.val (f i j))
  | _, _ => False
theorem mono_int0Q {f : Int → Int → D} : MonoQ2 (int0Q f) := fun x y Q Q' hq q => by
  unfold int0Q at q ⊢
  split
  · exact hq _ q
  · split at q
    · simp_all
    · exact q
theorem d_int0 {f : Int → Int → D} {f' : Int → Int → V} (h : ∀ i j F, Rep g.K F (f i j) (f' i j)) : OpD g (rI0 f') (int0Q f) := by
  intro T F env σ H Hs x y v w Q Qv ok rx ry q k
  unfold int0Q at q
  split at q
  · simp only [RepR, Rep] at rx ry
    exact ⟨_, _, rx, ry, k _ F H _ q ok.refl ok (h _ _ F)⟩
  · exact q.elim
abbrev subQ : Q2 := int0Q fun i j => .int (i - j)
abbrev fdivQ : Q2 := intQ CDivN fun i j => .int (i.fdiv j)
abbrev modQ : Q2 := intQ (fun _ j => j ≠ 0) fun i j => .int (i.fmod j)
abbrev powQ : Q2 := intQ CPow fun i j => .int (i ^ j.toNat)
abbrev ltQ : Q2 := int0Q fun i j => .bl (decide (i < j))
abbrev leQ : Q2 := int0Q fun i j => .bl (decide (i ≤ j))
abbrev gtQ : Q2 := int0Q fun i j => .bl (decide (j < i))
theorem d_sub : OpD g (rI0 fun i j => .int (i - j)) subQ := d_int0 fun _ _ _ => by simp only [Rep]
theorem d_fdiv : OpD g (rI CDivN fun i j => .int (i.fdiv j)) fdivQ := d_int fun _ _ _ => by simp only [Rep]
theorem d_mod : OpD g (rI (fun _ j => j ≠ 0) fun i j => .int (i.fmod j)) modQ := d_int fun _ _ _ => by simp only [Rep]
theorem d_pow : OpD g (rI CPow fun i j => .int (i ^ j.toNat)) powQ := d_int fun _ _ _ => by simp only [Rep]
theorem d_lt : OpD g (rI0 fun i j => .bl (decide (i < j))) ltQ := d_int0 fun _ _ _ => by simp only [Rep]
theorem d_le : OpD g (rI0 fun i j => .bl (decide (i ≤ j))) leQ := d_int0 fun _ _ _ => by simp only [Rep]
theorem d_gt : OpD g (rI0 fun i j => .bl (decide (j < i))) gtQ := d_int0 fun _ _ _ => by simp only [Rep]
def repS (s : Str) (n : Nat) : Str := ⟨(List.replicate n s.cps.toList).flatten.toArray⟩
theorem fold_app : ∀ (n : Nat) (a b : Array Nat), (List.replicate n a).foldl (· ++ ·) b = b ++ (List.replicate n a.toList).flatten.toArray
  | 0, a, b => by simp
  | n + 1, a, b => by
    simp only [List.replicate_succ, List.foldl_cons, List.flatten_cons]
    rw [fold_app n a (b ++ a)]
    apply Array.ext'
    simp
theorem repS_length (s : Str) (n : Nat) : (repS s n).length = n * s.length := by
  show (List.replicate n s.cps.toList).flatten.toArray.size = n * s.cps.size
  rw [List.size_toArray, List.length_flatten, List.map_replicate, List.sum_replicate_nat, Array.length_toList]
theorem op_mulS : OpR X (binaryOp .Mult) (fun x y H Q => ∃ (s : Str) (n : Int), x = .str s ∧ y = .int n ∧ 0 ≤ n ∧ n ≤ 100000 ∧ s.length * n.toNat ≤ 100000 ∧ Q (.str (repS s n.toNat)) H) := by
  intro pins s σ H x y v u Q I rx ry h
  obtain ⟨z, n, rfl, rfl, h0, h1, h2, q⟩ := h
  obtain ⟨t, rfl⟩ := rx
  obtain ⟨t', rfl⟩ := ry
  refine PySem.P.mul_str ?_ (fun _ _ => ?_) (fun _ _ => ?_) ?_
  · have a1 : ¬ n < -(2 ^ 63 : Int) := by omega
    have a2 : ¬ n ≥ 2 ^ 63 := by omega
    rw [decide_eq_false a1, decide_eq_false a2]; rfl
  · rename_i hn hz
    intro hgt
    have e : (0 : Int) < n := by omega
    have e2 : (2 ^ 63 - 1 : Int) / n < (z.length : Int) := hgt
    have e3 := Int.lt_mul_of_ediv_lt e e2
    have e4 : ((z.length : Int) * n) ≤ 100000 := by
      have h3 : ((z.length * n.toNat : Nat) : Int) ≤ ((100000 : Nat) : Int) := Int.ofNat_le.mpr h2
      rw [Int.natCast_mul, Int.toNat_of_nonneg h0] at h3
      exact h3
    omega
  · have : z.length * n.toNat ≤ sizeLine := Evl.sz_of h2
    unfold Builtin.Str.tooLong
    exact decide_eq_false (by omega)
  · by_cases c : n < 1
    · rw [if_pos c]
      have e0 : n.toNat = 0 := by omega
      refine ⟨by decide, ⟨.str Str.empty, H, I.tok _, ⟨_, rfl⟩, ?_⟩⟩
      rw [e0] at q
      exact q
    · rw [if_neg c]
      by_cases d : (n == 1 || z.length == 0) = true
      · rw [if_pos d]
        have eq : repS z n.toNat = z := by
          rw [Bool.or_eq_true, beq_iff_eq, beq_iff_eq] at d
          rcases d with d | d
          · subst d
            simp [repS]
          · have : z.cps = #[] := by
              have : z.cps.size = 0 := d
              exact Array.eq_empty_of_size_eq_zero this
            obtain ⟨cp⟩ := z
            simp only at this
            subst this
            simp [repS]
        rw [eq] at q
        exact ⟨.str z, H, I, ⟨t, rfl⟩, q⟩
      · rw [if_neg d]
        have eq : (⟨(List.replicate n.toNat z.cps).foldl (· ++ ·) #[]⟩ : Str) = repS z n.toNat := by
          rw [fold_app]
          simp [repS]
        rw [eq]
        refine ⟨?_, ⟨.str (repS z n.toNat), H, I.tok _, ⟨_, rfl⟩, q⟩⟩
        rw [repS_length]
        refine Evl.sz_of ?_
        rw [Nat.mul_comm]
        exact h2
end
end DL
namespace DL
open PySem PySem.Spec L2
section
variable {X : Cx} {g : G} {W : WX} {T ca cb cc : Nat} {F H Hs : Hp} {env : En} {σ : St} {x y r : RV} {v w : V} {xs ys : List D}
def rMulA : R2 := fun x y H Q => (rI CMul fun i j => .int (i * j)) x y H Q ∨ ∃ (s : Str) (n : Int), x = .str s ∧ y = .int n ∧ 0 ≤ n ∧ n ≤ 100000 ∧ s.length * n.toNat ≤ 100000 ∧ Q (.str (repS s n.toNat)) H
theorem op_mulA : OpR X (binaryOp .Mult) rMulA := opR_or op_mul op_mulS
def mulQ : Q2 := fun x y Q => match x, y with
  | .val (.int i), .val (.int j) => CMul i j ∧ Q (.val (.int (i * j)))
  | .val (.str s), .val (.int n) => (0 ≤ n ∧ n ≤ 100000 ∧ s.length * n.toNat ≤ 100000) ∧ Q (.val (.str (repS s n.toNat)))
  | _, _ => False
theorem mono_mulQ : MonoQ2 mulQ := fun x y Q Q' hq q => by
  unfold mulQ at q ⊢
  split
  · exact ⟨q.1, hq _ q.2⟩
  · exact ⟨q.1, hq _ q.2⟩
  · split at q
    · simp_all
    · simp_all
    · exact q
theorem d_mul : OpD g rMulA mulQ := by
  intro T F env σ H Hs x y v w Q Qv ok rx ry q k
  unfold mulQ at q
  split at q
  · simp only [RepR, Rep] at rx ry
    exact .inl ⟨_, _, rx, ry, q.1, k _ F H _ q.2 ok.refl ok (by simp only [RepR, Rep])⟩
  · simp only [RepR, Rep] at rx ry
    exact .inr ⟨_, _, rx, ry, q.1.1, q.1.2.1, q.1.2.2, k _ F H _ q.2 ok.refl ok (by simp only [RepR, Rep])⟩
  · exact q.elim
mutual
def pyD : D → PyData
  | .non => .none
  | .bl b => .bool b
  | .int i => .int i
  | .str s => .str s
  | .tup xs => .tuple (pyDs xs)
  | .lst xs => .list (pyDs xs)
  | _ => .none
def pyDs : List D → List PyData
  | [] => []
  | d :: ds => pyD d :: pyDs ds
end
mutual
def okPy : D → Bool
  | .obj _ _ _ => false
  | .ty _ => false
  | .cls _ => false
  | .tup xs => okPys xs
  | .lst xs => okPys xs
  | _ => true
def okPys : List D → Bool
  | [] => true
  | d :: ds => okPy d && okPys ds
end
mutual
theorem dp_of {K : PySem.W.Frag} {H : Hp} : ∀ {d : D} {v : V}, okPy d = true → Rep K H d v → Dp K H v (pyD d)
  | .non, v, _, r => by simp only [Rep] at r; subst r; simp only [pyD]; exact .non
  | .bl b, v, _, r => by simp only [Rep] at r; subst r; simp only [pyD]; exact .bl b
  | .int b, v, _, r => by simp only [Rep] at r; subst r; simp only [pyD]; exact .int b
  | .str b, v, _, r => by simp only [Rep] at r; subst r; simp only [pyD]; exact .str b
  | .tup xs, v, o, r => by
    simp only [okPy] at o
    simp only [Rep] at r
    obtain ⟨a, vs, rfl, h1, h2⟩ := r
    simp only [pyD]
    exact .tup h1 (dps_of o h2)
  | .lst xs, v, o, r => by
    simp only [okPy] at o
    simp only [Rep] at r
    obtain ⟨a, vs, rfl, h1, h2⟩ := r
    simp only [pyD]
    exact .lst (.inl (.inl h1)) (dps_of o h2)
  | .obj _ _ _, v, o, r => by simp [okPy] at o
  | .ty _, v, o, r => by simp [okPy] at o
  | .cls _, v, o, r => by simp [okPy] at o
theorem dps_of {K : PySem.W.Frag} {H : Hp} : ∀ {ds : List D} {vs : List V}, okPys ds = true → RepL K H ds vs → DpAll K H vs (pyDs ds)
  | [], vs, _, r => by simp only [RepL] at r; subst r; simp only [pyDs]; exact .nil
  | d :: ds, vs, o, r => by
    simp only [okPys, Bool.and_eq_true] at o
    simp only [RepL] at r
    obtain ⟨v, u, rfl, h1, h2⟩ := r
    simp only [pyDs]
    exact .cons (dp_of o.1 h1) (dps_of o.2 h2)
end
def rEqA (K : PySem.W.Frag) : R2 := fun x y H Q => rEq x y H Q ∨ rEqD K x y H Q
def rNeA (K : PySem.W.Frag) : R2 := fun x y H Q => rNe x y H Q ∨ rNeD K x y H Q
theorem op_eqA (hu : X.A.units + 66 < cLine) : OpR X (compareOp .Eq) (rEqA X.K) := opR_or op_eq (op_eqD (by omega))
theorem op_neA (hu : X.A.units + 66 < cLine) : OpR X (compareOp .NotEq) (rNeA X.K) := opR_or op_ne (op_neD (by omega))
def eqlQ (neg : Bool) : Q2 := fun x y Q => match x, y with
  | .val (.int i), .val (.int j) => Q (.val (.bl (if neg then !decide (i = j) else decide (i = j))))
  | .val (.str i), .val (.str j) => Q (.val (.bl (if neg then !decide (i = j) else decide (i = j))))
  | .val (.bl i), .val (.bl j) => Q (.val (.bl (if neg then !decide (i = j) else decide (i = j))))
  | .val .non, .val .non => Q (.val (.bl (!neg)))
  | x, y => ∃ a b, asD x = some a ∧ asD y = some b ∧ okPy a = true ∧ okPy b = true ∧ SeqAt.shaped (pyD a) = true ∧ SeqAt.shaped (pyD b) = true ∧ Q (.val (.bl (if neg then !PyData.eqv (pyD a) (pyD b) else PyData.eqv (pyD a) (pyD b))))
abbrev eqQ : Q2 := eqlQ false
abbrev neQ : Q2 := eqlQ true
theorem mono_eqlQ {n : Bool} : MonoQ2 (eqlQ n) := fun x y Q Q' hq q => by
  unfold eqlQ at q ⊢
  split
  · exact hq _ q
  · exact hq _ q
  · exact hq _ q
  · exact hq _ q
  · split at q
    · simp_all
    · simp_all
    · simp_all
    · simp_all
    · obtain ⟨a, b, h1, h2, h3, h4, h5, h6, q⟩ := q
      exact ⟨a, b, h1, h2, h3, h4, h5, h6, hq _ q⟩
theorem d_eq : OpD g (rEqA g.K) eqQ := by
  intro T F env σ H Hs x y v w Q Qv ok rx ry q k
  unfold eqQ eqlQ at q
  split at q
  · rename_i i j
    simp only [RepR, Rep] at rx ry
    subst rx; subst ry
    refine .inl ⟨rfl, ?_⟩
    have e : decide (V.int i = V.int j) = decide (i = j) := by simp
    rw [e]
    exact k _ F H _ q ok.refl ok (by simp only [RepR, Rep]; rfl)
  · rename_i i j
    simp only [RepR, Rep] at rx ry
    subst rx; subst ry
    refine .inl ⟨rfl, ?_⟩
    have e : decide (V.str i = V.str j) = decide (i = j) := by simp
    rw [e]
    exact k _ F H _ q ok.refl ok (by simp only [RepR, Rep]; rfl)
  · rename_i i j
    simp only [RepR, Rep] at rx ry
    subst rx; subst ry
    refine .inl ⟨rfl, ?_⟩
    have e : decide (V.bl i = V.bl j) = decide (i = j) := by simp
    rw [e]
    exact k _ F H _ q ok.refl ok (by simp only [RepR, Rep]; rfl)
  · simp only [RepR, Rep] at rx ry
    subst rx; subst ry
    exact .inl ⟨rfl, k _ F H _ q ok.refl ok (by simp only [RepR, Rep]; rfl)⟩
  · obtain ⟨a, b, h1, h2, h3, h4, h5, h6, q⟩ := q
    have r1 := asD_rep ok h1 rx
    have r2 := asD_rep ok h2 ry
    exact .inr ⟨_, _, dp_of h3 r1, dp_of h4 r2, h5, h6, k _ F H _ q ok.refl ok (by simp only [RepR, Rep]; rfl)⟩
theorem d_ne : OpD g (rNeA g.K) neQ := by
  intro T F env σ H Hs x y v w Q Qv ok rx ry q k
  unfold neQ eqlQ at q
  split at q
  · rename_i i j
    simp only [RepR, Rep] at rx ry
    subst rx; subst ry
    refine .inl ⟨rfl, ?_⟩
    have e : decide (V.int i = V.int j) = decide (i = j) := by simp
    rw [e]
    exact k _ F H _ q ok.refl ok (by simp only [RepR, Rep]; rfl)
  · rename_i i j
    simp only [RepR, Rep] at rx ry
    subst rx; subst ry
    refine .inl ⟨rfl, ?_⟩
    have e : decide (V.str i = V.str j) = decide (i = j) := by simp
    rw [e]
    exact k _ F H _ q ok.refl ok (by simp only [RepR, Rep]; rfl)
  · rename_i i j
    simp only [RepR, Rep] at rx ry
    subst rx; subst ry
    refine .inl ⟨rfl, ?_⟩
    have e : decide (V.bl i = V.bl j) = decide (i = j) := by simp
    rw [e]
    exact k _ F H _ q ok.refl ok (by simp only [RepR, Rep]; rfl)
  · simp only [RepR, Rep] at rx ry
    subst rx; subst ry
    exact .inl ⟨rfl, k _ F H _ q ok.refl ok (by simp only [RepR, Rep]; rfl)⟩
  · obtain ⟨a, b, h1, h2, h3, h4, h5, h6, q⟩ := q
    have r1 := asD_rep ok h1 rx
    have r2 := asD_rep ok h2 ry
    exact .inr ⟨_, _, dp_of h3 r1, dp_of h4 r2, h5, h6, k _ F H _ q ok.refl ok (by simp only [RepR, Rep]; rfl)⟩
def rInA (K : PySem.W.Frag) (neg : Bool) : R2 := fun x y H Q => (∃ (c : Nat) (z : Str), x = .str ⟨#[c]⟩ ∧ y = .str z ∧ Q (.bl (if neg then !decide (c ∈ z.cps.toList) else decide (c ∈ z.cps.toList))) H) ∨ rIn K neg x y H Q
theorem op_inA : OpR X (compareOp .In) (rInA X.K false) := opR_or op_in_sign op_in_seq
theorem op_notInA : OpR X (compareOp .NotIn) (rInA X.K true) := opR_or op_notIn_sign op_notIn_seq
def inlQ (neg : Bool) : Q2 := fun x y Q => match y with
  | .val (.str z) => ∃ c, x = .val (.str ⟨#[c]⟩) ∧ Q (.val (.bl (if neg then !decide (c ∈ z.cps.toList) else decide (c ∈ z.cps.toList))))
  | y => ∃ a v ds ws, asD x = some a ∧ flat a = some v ∧ asSeq y = some ds ∧ flats ds = some ws ∧ Q (.val (.bl (if neg then !inV v ws else inV v ws)))
abbrev inQ : Q2 := inlQ false
abbrev notInQ : Q2 := inlQ true
theorem mono_inlQ {n : Bool} : MonoQ2 (inlQ n) := fun x y Q Q' hq q => by
  unfold inlQ at q ⊢
  split
  · obtain ⟨c, h1, q⟩ := q
    exact ⟨c, h1, hq _ q⟩
  · split at q
    · simp_all
    · obtain ⟨a, v, ds, ws, h1, h2, h3, h4, q⟩ := q
      exact ⟨a, v, ds, ws, h1, h2, h3, h4, hq _ q⟩
theorem d_in {neg : Bool} : OpD g (rInA g.K neg) (inlQ neg) := by
  intro T F env σ H Hs x y v w Q Qv ok rx ry q k
  unfold inlQ at q
  split at q
  · obtain ⟨c, rfl, q⟩ := q
    simp only [RepR, Rep] at rx ry
    exact .inl ⟨_, _, rx, ry, k _ F H _ q ok.refl ok (by simp only [RepR, Rep])⟩
  · obtain ⟨a, v', ds, ws, h1, h2, h3, h4, q⟩ := q
    have r1 := asD_rep ok h1 rx
    obtain ⟨p, us, rfl, h5, h6⟩ := asSeq_rep ok h3 ry
    obtain ⟨rfl, h7⟩ := flats_rep h4 h6
    rw [flat_rep h2 r1]
    exact .inr ⟨p, us, rfl, h5, flat_flatV h2, h7, k _ F H _ q ok.refl ok (by simp only [RepR, Rep])⟩
def isNonD : D → Bool
  | .non => true
  | _ => false
def isNlQ (neg : Bool) : Q2 := fun x y Q => y = .val .non ∧ match x with
  | .val d => Q (.val (.bl (if neg then !isNonD d else isNonD d)))
  | .bor _ => Q (.val (.bl neg))
  | _ => False
abbrev isNQ : Q2 := isNlQ false
abbrev notNQ : Q2 := isNlQ true
theorem mono_isNlQ {n : Bool} : MonoQ2 (isNlQ n) := fun x y Q Q' hq q => by
  unfold isNlQ at q ⊢
  refine ⟨q.1, ?_⟩
  have q2 := q.2
  split
  · exact hq _ q2
  · exact hq _ q2
  · split at q2
    · simp_all
    · simp_all
    · exact q2
theorem isNon_rep {K : PySem.W.Frag} {d : D} (r : Rep K F d v) : decide (v = .non) = isNonD d := by
  cases d <;> simp only [Rep] at r
  · subst r; simp [isNonD]
  · subst r; simp [isNonD]
  · subst r; simp [isNonD]
  · subst r; simp [isNonD]
  · obtain ⟨a, vs, rfl, _⟩ := r; simp [isNonD]
  · obtain ⟨a, vs, rfl, _⟩ := r; simp [isNonD]
  · obtain ⟨a, dx, vs, rfl, _⟩ := r; simp [isNonD]
  · subst r; simp [isNonD]
  · subst r; simp [isNonD]
def rIsNA (neg : Bool) : R2 := fun x y H Q => y = .non ∧ Q (.bl (if neg then !decide (x = .non) else decide (x = .non))) H
theorem op_isNA : OpR X (compareOp .Is) (rIsNA false) := op_isN
theorem op_notNA : OpR X (compareOp .IsNot) (rIsNA true) := op_notN
theorem d_isN {neg : Bool} : OpD g (rIsNA neg) (isNlQ neg) := by
  intro T F env σ H Hs x y v w Q Qv ok rx ry q k
  unfold isNlQ at q
  obtain ⟨rfl, q⟩ := q
  simp only [RepR, Rep] at ry
  refine ⟨ry, ?_⟩
  split at q
  · rename_i d
    rw [isNon_rep rx]
    exact k _ F H _ q ok.refl ok (by simp only [RepR, Rep])
  · obtain ⟨i, e1, e2⟩ := rx
    obtain ⟨a, e3, _⟩ := ok.own i _ e1
    rw [e2] at e3
    cases e3
    have e : decide ((V.ref a) = .non) = false := by simp
    rw [e]
    cases neg <;> exact k _ F H _ q ok.refl ok (by simp only [RepR, Rep]; rfl)
  · exact q.elim
theorem atI_rep {K : PySem.W.Frag} {ds : List D} {vs : List V} {i : Int} {d : D} (r : RepL K F ds vs) (h : atI ds i = some d) : ∃ v, atI vs i = some v ∧ Rep K F d v := by
  unfold atI at h ⊢
  rw [r.length] at h
  cases e : ixN vs.length i with
  | none => rw [e] at h; simp at h
  | some j =>
    rw [e] at h
    simp only [Option.bind_some] at h ⊢
    exact r.get h
def ixQ : Q2 := fun x y Q => ∃ i, y = .val (.int i) ∧ match x with
  | .val (.str s) => ∃ c, s.length ≤ LIM ∧ atI s.cps.toList i = some c ∧ Q (.val (.str ⟨#[c]⟩))
  | x => ∃ ds d, asSeq x = some ds ∧ atI ds i = some d ∧ Q (.val d)
theorem mono_ixQ : MonoQ2 ixQ := fun x y Q Q' hq q => by
  unfold ixQ at q ⊢
  obtain ⟨i, h, q⟩ := q
  refine ⟨i, h, ?_⟩
  split
  · obtain ⟨c, h1, h2, q⟩ := q
    exact ⟨c, h1, h2, hq _ q⟩
  · split at q
    · simp_all
    · obtain ⟨ds, d, h1, h2, q⟩ := q
      exact ⟨ds, d, h1, h2, hq _ q⟩
theorem d_ix : OpD g (rIx g.K) ixQ := by
  intro T F env σ H Hs x y v w Q Qv ok rx ry q k
  unfold ixQ at q
  obtain ⟨i, rfl, q⟩ := q
  simp only [RepR, Rep] at ry
  subst ry
  split at q
  · obtain ⟨c, h1, h2, q⟩ := q
    simp only [RepR, Rep] at rx
    exact .inr (.inr ⟨_, i, c, rx, rfl, lim_line h1, h2, k _ F H _ q ok.refl ok (by simp only [RepR, Rep])⟩)
  · obtain ⟨ds, d, h1, h2, q⟩ := q
    obtain ⟨a, vs, rfl, h5, h6⟩ := asSeq_rep ok h1 rx
    obtain ⟨u, h7, h8⟩ := atI_rep h6 h2
    have q2 := k _ F H u q ok.refl ok h8
    rcases h5 with h5 | h5
    · exact .inl ⟨a, vs, i, u, rfl, rfl, h5, h7, q2⟩
    · exact .inr (.inl ⟨a, vs, i, u, rfl, rfl, h5, h7, q2⟩)
abbrev OD := En → (Option Int → Prop) → (Exc → Prop) → Prop
def tDO (g : G) (W : WX) (c : Nat) (f : OD) : TO := fun σ H Q => ∃ T F env, T + c ≤ T + c ∧ Ok g T F env σ H ∧ f env (fun o => ∀ F' H', Grow g.st F H F' H' → Ok g (T + c) F' env σ H' → Q o H') (exE g T c F env σ H W)
structure DO (X : Cx) (g : G) (W : WX) (c : Nat) (e : Option Expr) (f : OD) : Prop where
  po : PO X e (tDO g W c f)
  mono : MonoE f
theorem POimp {e : Option Expr} {t t' : TO} (h : PO X e t) (i : ∀ σ H Q, t' σ H Q → t σ H Q) : PO X e t' := ⟨fun pins s σ H Q I q => h.run pins s σ H Q I (i σ H Q q)⟩
def oNone : OD := fun _ Q _ => Q none
def oSome (f : ED) : OD := fun env Q E => f env (fun r => match r with | .val (.int i) => Q (some i) | _ => False) E
variable {fa fb : ED}
theorem do_none : DO X g W 0 none oNone := ⟨POimp po_none fun σ H Q ⟨T, F, env, hT, ok, h⟩ => h F H ok.refl ok, fun env Q Q' E E' hq he q => hq _ q⟩
theorem do_some {e : Expr} (h : DE X g W ca e fa) : DO X g W ca (some e) (oSome fa) := by
  refine ⟨POimp (po_some h.pe) fun σ H Q ⟨T, F, env, hT, ok, q⟩ => ?_, fun env Q Q' E E' hq he q => h.mono env _ _ _ _ (fun r q => ?_) he q⟩
  · refine run_e ok hT h.mono q (fun x hx F1 H1 v w o rx => ?_) (exE.shift ok.refl (by omega))
    split at hx
    · rename_i i
      simp only [RepR, Rep] at rx
      exact ⟨i, rx, hx F1 H1 w o⟩
    · exact hx.elim
  · split at q
    · exact hq _ q
    · exact q
abbrev QS := RV → Option Int → Option Int → (RV → Prop) → Prop
def cutD (xs : List D) (lo hi : Option Int) : List D := (xs.drop (HT.sIx xs.length 0 lo)).take (HT.sIx xs.length xs.length hi - HT.sIx xs.length 0 lo)
def sliceQ : QS := fun x lo hi Q => match x with
  | .val (.str s) => s.length ≤ LIM ∧ Q (.val (.str (cutS s lo hi)))
  | .val (.tup xs) => Q (.val (.tup (cutD xs lo hi)))
  | x => ∃ xs, asL x = some xs ∧ Q (.own (cutD xs lo hi))
def eSlice (fa : ED) (fl fh : OD) : ED := fun env Q E => frz fa env (fun x => fl env (fun lo => fh env (fun hi => sliceQ x lo hi Q) E) E) E
theorem cut_rep {K : PySem.W.Frag} {ds : List D} {vs : List V} {lo hi : Option Int} (r : RepL K F ds vs) : RepL K F (cutD ds lo hi) (cutV vs lo hi) := by
  unfold cutD cutV
  rw [r.length]
  exact (r.drop _).take _
def rSlX3 (K : PySem.W.Frag) : V → Option Int → Option Int → Hp → VK → Prop := fun x lo hi H Q => rSlA K x lo hi H Q ∨ (rSlL K x lo hi H Q ∨ rSlS x lo hi H Q)
theorem sl_any : SlR X (rSlX3 X.K) := SlR.or sl_tupA (SlR.or sl_list sl_str)
theorem mono_sliceQ {x : RV} {lo hi : Option Int} {Q Q' : RV → Prop} (hq : ∀ r, Q r → Q' r) (q : sliceQ x lo hi Q) : sliceQ x lo hi Q' := by
  unfold sliceQ at q ⊢
  split
  · exact ⟨q.1, hq _ q.2⟩
  · exact hq _ q
  · split at q
    · simp_all
    · simp_all
    · obtain ⟨xs, h1, q⟩ := q
      exact ⟨xs, h1, hq _ q⟩
theorem sem_slice {lo hi : Option Int} {Q : RV → Prop} {Qv : VK} (ok : Ok g T F env σ H) (rx : RepR g Hs F H env σ x v) (q : sliceQ x lo hi Q)
    (k : ∀ z F' H' u, Q z → Grow g.st F H F' H' → Ok g T F' env σ H' → RepR g H F' H' env σ z u → Qv u H') : rSlX3 g.K v lo hi H Qv := by
  unfold sliceQ at q
  split at q
  · simp only [RepR, Rep] at rx
    exact .inr (.inr ⟨_, rx, lim_line q.1, k _ F H _ q.2 ok.refl ok (by simp only [RepR, Rep])⟩)
  · rename_i ds
    have rx' := rx
    simp only [RepR, Rep] at rx
    obtain ⟨a, vs, rfl, h1, h2⟩ := rx
    refine .inl ⟨a, vs, rfl, Evl.ex_t ok.fh h1, fun e => ?_, fun _ p hp => ?_⟩
    · have e2 : cutD ds lo hi = ds := by
        unfold cutD
        rw [h2.length, e.1, e.2, List.drop_zero, Nat.sub_zero, ← h2.length, List.take_length]
      rw [e2] at q
      exact k _ F H _ q ok.refl ok rx'
    · refine k _ _ _ _ q (Grow.newF ok.fh ok.sto.free ok.sto.some hp) (ok.newF hp) ?_
      simp only [RepR, Rep]
      exact ⟨p, _, rfl, .inl (.inl upd_same), (cut_rep h2).mono (Evl.Ex.new (Evl.fresh_back ok.fh hp))⟩
  · obtain ⟨ds, h1, q⟩ := q
    obtain ⟨a, vs, rfl, ha, hx⟩ := asL_rep ok h1 rx
    exact .inr (.inl ⟨a, vs, rfl, .inl (.inl ha), fun p hp => k _ F _ _ q (Grow.new ok.fh ok.sto.free hp) (ok.new hp) (RepR.made ok hp (cut_rep hx))⟩)
theorem de_slice (cy : Cy X g W) {e : Expr} {lo hi : Option Expr} {fl fh : OD} {p2 pos : Pos} (ha : DE X g W ca e fa) (hl : DO X g W cb lo fl) (hh : DO X g W cc hi fh) : DE X g W (ca + (cb + cc)) (.Subscript e (.Slice lo hi none p2) pos) (eSlice fa fl fh) := by
  have hs := sl_any (X := X)
  rw [cy.k] at hs
  refine ⟨PEimp (pe_slice hs ha.frz.pe hl.po hh.po) fun σ H Q ⟨T, F, env, hT, ok, h⟩ => ?_, fun env Q Q' E E' hq he h => ha.frz.mono env _ _ _ _ (fun x hx => hl.mono env _ _ _ _ (fun l hl' => hh.mono env _ _ _ _ (fun u q => mono_sliceQ hq q) he hl') he hx) he h⟩
  refine run_e ok (by omega) ha.frz.mono h (fun x hx F1 H1 v w o rx => ?_) (exE.shift ok.refl (by omega))
  refine ⟨T + ca, F1, env, by omega, o, hl.mono env _ _ _ _ (fun l hx2 F2 H2 w2 o2 => ?_) (exE.shift w (by omega)) hx⟩
  refine ⟨T + ca + cb, F2, env, by omega, o2, hh.mono env _ _ _ _ (fun u hx3 F3 H3 w3 o3 => ?_) (exE.shift (w.trans w2) (by omega)) hx2⟩
  exact sem_slice o3 ((rx.grow w2).grow w3) hx3 fun z F' H' u qz w4 o4 rz => qz F' H' u (w.trans (w2.trans (w3.trans w4))) (o4.up (by omega)) (rz.since (w.trans (w2.trans w3)))
end
end DL
namespace DL
open PySem PySem.Spec L2
section
variable {X : Cx} {g : G} {W : WX} {T ca cb cc : Nat} {F H Hs : Hp} {env : En} {σ : St} {x y r : RV} {v w : V} {xs ys : List D}
theorem rs1 {rs : List RV} {vs : List V} {x : RV} (h : RepRs g Hs F H env σ [x] vs) : ∃ v, vs = [v] ∧ RepR g Hs F H env σ x v := by
  obtain ⟨v, w, rfl, h1, h2⟩ := h
  have e : w = [] := h2
  subst e
  exact ⟨v, rfl, h1⟩
theorem rs2 {vs : List V} {x y : RV} (h : RepRs g Hs F H env σ [x, y] vs) : ∃ v u, vs = [v, u] ∧ RepR g Hs F H env σ x v ∧ RepR g Hs F H env σ y u := by
  obtain ⟨v, w, rfl, h1, h2⟩ := h
  obtain ⟨u, rfl, h3⟩ := rs1 (rs := []) h2
  exact ⟨v, u, rfl, h1, h3⟩
def lenQ : QC := fun rs Q => match rs with
  | [.val (.str s)] => s.length ≤ LIM ∧ Q (.val (.int s.length))
  | [x] => ∃ xs, asSeq x = some xs ∧ Q (.val (.int xs.length))
  | _ => False
theorem mono_lenQ : MonoC lenQ := fun xs Q Q' hq q => by
  unfold lenQ at q ⊢
  split
  · exact ⟨q.1, hq _ q.2⟩
  · split at q
    · simp_all
    · obtain ⟨xs, h, q⟩ := q
      simp_all
    · exact q.elim
  · split at q
    · simp_all
    · simp_all
    · exact q
theorem d_len : CallD g (fun xs H Q => ∃ x n, xs = [x] ∧ LenV g.K x H n ∧ Q (.int n) H) lenQ := by
  intro T F env σ H Hs xs vs Q Qv ok rs q k
  unfold lenQ at q
  split at q
  · obtain ⟨v, rfl, r⟩ := rs1 (rs := []) rs
    simp only [RepR, Rep] at r
    subst r
    exact ⟨_, _, rfl, ⟨lim_line q.1, rfl⟩, k _ F H _ q.2 ok.refl ok (by simp only [RepR, Rep])⟩
  · obtain ⟨v, rfl, r⟩ := rs1 (rs := []) rs
    obtain ⟨ds, h, q⟩ := q
    obtain ⟨a, us, rfl, h1, h2⟩ := asSeq_rep ok h r
    have q2 := k _ F H (.int ds.length) q ok.refl ok (by simp only [RepR, Rep])
    rw [h2.length] at q2
    refine ⟨_, _, rfl, ?_, q2⟩
    rcases h1 with h1 | h1
    · exact .inl ⟨us, h1, rfl⟩
    · exact .inr ⟨us, h1, rfl⟩
  · exact q.elim
def absQ : QC := fun rs Q => match rs with
  | [.val (.int i)] => Q (.val (.int (if i < 0 then -i else i)))
  | _ => False
def intOfQ : QC := fun rs Q => match rs with
  | [.val (.int i)] => Q (.val (.int i))
  | [.val (.bl k)] => Q (.val (.int (if k then 1 else 0)))
  | _ => False
theorem mono_intOfQ : MonoC intOfQ := fun xs Q Q' hq q => by
  unfold intOfQ at q ⊢
  split
  · exact hq _ q
  · exact hq _ q
  · split at q
    · simp_all
    · simp_all
    · exact q
theorem d_intOf : CallD g (fun xs H Q => (∃ i, xs = [.int i] ∧ Q (.int i) H) ∨ ∃ k, xs = [.bl k] ∧ Q (.int (if k then 1 else 0)) H) intOfQ := by
  intro T F env σ H Hs xs vs Q Qv ok rs q k
  unfold intOfQ at q
  split at q
  · obtain ⟨v, rfl, r⟩ := rs1 (rs := []) rs
    simp only [RepR, Rep] at r
    subst r
    exact .inl ⟨_, rfl, k _ F H _ q ok.refl ok (by simp only [RepR, Rep])⟩
  · obtain ⟨v, rfl, r⟩ := rs1 (rs := []) rs
    simp only [RepR, Rep] at r
    subst r
    exact .inr ⟨_, rfl, k _ F H _ q ok.refl ok (by simp only [RepR, Rep])⟩
  · exact q.elim
def strOfQ : QC := fun rs Q => match rs with
  | [.val (.int i)] => i.natAbs.log2 < 1920 ∧ Q (.val (.str (toString i)))
  | _ => False
theorem mono_strOfQ : MonoC strOfQ := fun xs Q Q' hq q => by
  unfold strOfQ at q ⊢
  split
  · exact ⟨q.1, hq _ q.2⟩
  · split at q
    · simp_all
    · exact q
theorem d_strOf : CallD g (fun xs H Q => ∃ i, xs = [.int i] ∧ i.natAbs.log2 < 1920 ∧ Q (.str (toString i)) H) strOfQ := by
  intro T F env σ H Hs xs vs Q Qv ok rs q k
  unfold strOfQ at q
  split at q
  · obtain ⟨v, rfl, r⟩ := rs1 (rs := []) rs
    simp only [RepR, Rep] at r
    subst r
    exact ⟨_, rfl, q.1, k _ F H _ q.2 ok.refl ok (by simp only [RepR, Rep])⟩
  · exact q.elim
def listOfQ : QC := fun rs Q => match rs with
  | [x] => ∃ xs, asSeq x = some xs ∧ Q (.own xs)
  | _ => False
theorem mono_listOfQ : MonoC listOfQ := fun xs Q Q' hq q => by
  unfold listOfQ at q ⊢
  split
  · obtain ⟨xs, h, q⟩ := q
    exact ⟨xs, h, hq _ q⟩
  · split at q
    · simp_all
    · exact q
theorem d_listOf : CallD g (fun xs H Q => ∃ p ys, xs = [.ref p] ∧ (SqL g.K H p ys ∨ SqT g.K H p ys) ∧ ∀ l, H l = none → Q (.ref l) (upd H l (.lst ys))) listOfQ := by
  intro T F env σ H Hs xs vs Q Qv ok rs q k
  unfold listOfQ at q
  split at q
  · obtain ⟨v, rfl, r⟩ := rs1 (rs := []) rs
    obtain ⟨ds, h, q⟩ := q
    obtain ⟨a, us, rfl, h1, h2⟩ := asSeq_rep ok h r
    exact ⟨a, us, rfl, h1, fun p hp => k _ F _ _ q (Grow.new ok.fh ok.sto.free hp) (ok.new hp) (RepR.made ok hp h2)⟩
  · exact q.elim
def tupOfQ : QC := fun rs Q => match rs with
  | [x] => ∃ xs, asSeq x = some xs ∧ Q (.val (.tup xs))
  | _ => False
theorem mono_tupOfQ : MonoC tupOfQ := fun xs Q Q' hq q => by
  unfold tupOfQ at q ⊢
  split
  · obtain ⟨xs, h, q⟩ := q
    exact ⟨xs, h, hq _ q⟩
  · split at q
    · simp_all
    · exact q
theorem asSeq_cases (ok : Ok g T F env σ H) (h : asSeq x = some xs) (r : RepR g Hs F H env σ x v) : (∃ a vs, v = .ref a ∧ H a = some (.lst vs) ∧ RepL g.K F xs vs) ∨ (∃ a vs, v = .ref a ∧ SqT g.K F a vs ∧ RepL g.K F xs vs) := by
  cases x with
  | val e =>
    cases e with
    | lst ys => exact .inl (asL_rep (x := .val (.lst ys)) (xs := xs) ok (by simpa [asSeq, asL] using h) r)
    | tup ys =>
      simp only [asSeq, Option.some.injEq] at h
      subst h
      simp only [RepR, Rep] at r
      exact .inr r
    | _ => simp [asSeq] at h
  | bor ys => exact .inl (asL_rep (x := .bor ys) (xs := xs) ok (by simpa [asSeq, asL] using h) r)
  | own ys => simp [asSeq] at h
  | sto => simp [asSeq] at h
theorem d_tupOf : CallD g (fun xs H Q => ∃ p ys, xs = [.ref p] ∧ ((SqL g.K H p ys ∧ ∀ l, H l = none → Q (.ref l) (upd H l (.tup ys))) ∨ (SqT g.K H p ys ∧ Q (.ref p) H))) tupOfQ := by
  intro T F env σ H Hs xs vs Q Qv ok rs q k
  unfold tupOfQ at q
  split at q
  · obtain ⟨v, rfl, r⟩ := rs1 (rs := []) rs
    obtain ⟨ds, h, q⟩ := q
    rcases asSeq_cases ok h r with ⟨a, us, rfl, h1, h2⟩ | ⟨a, us, rfl, h1, h2⟩
    · refine ⟨a, us, rfl, .inl ⟨.inl (.inl h1), fun p hp => k _ _ _ _ q (Grow.newF ok.fh ok.sto.free ok.sto.some hp) (ok.newF hp) ?_⟩⟩
      simp only [RepR, Rep]
      exact ⟨p, us, rfl, .inl (.inl upd_same), h2.mono (Evl.Ex.new (Evl.fresh_back ok.fh hp))⟩
    · refine ⟨a, us, rfl, .inr ⟨Evl.ex_t ok.fh h1, k _ F H _ q ok.refl ok ?_⟩⟩
      simp only [RepR, Rep]
      exact ⟨a, us, rfl, h1, h2⟩
  · exact q.elim
def bools : List D → Option (List Bool)
  | [] => some []
  | .bl b :: ds => (bools ds).map (b :: ·)
  | _ => none
theorem bools_map : ∀ (bs : List Bool), bools (bs.map D.bl) = some bs
  | [] => rfl
  | b :: bs => by simp only [List.map_cons, bools, bools_map bs, Option.map_some]
theorem bools_rep {K : PySem.W.Frag} : ∀ {ds : List D} {bs : List Bool} {vs : List V}, bools ds = some bs → RepL K F ds vs → vs = bs.map V.bl
  | [], _, _, h, r => by
    simp only [bools, Option.some.injEq] at h
    simp only [RepL] at r
    subst h; subst r; rfl
  | d :: ds, _, _, h, r => by
    simp only [RepL] at r
    obtain ⟨v, u, rfl, h1, h2⟩ := r
    unfold bools at h
    split at h
    · rename_i e; cases e
    · rename_i b ds' e
      cases e
      cases e2 : bools ds with
      | none => rw [e2] at h; cases h
      | some bs =>
        rw [e2] at h
        simp only [Option.map_some, Option.some.injEq] at h
        subst h
        simp only [Rep] at h1
        rw [h1, bools_rep e2 h2]
        rfl
    · cases h
def allQ (any : Bool) : QC := fun rs Q => match rs with
  | [x] => ∃ xs bs, asL x = some xs ∧ bools xs = some bs ∧ Q (.val (.bl (if any then bs.any id else bs.all id)))
  | _ => False
theorem mono_allQ {n : Bool} : MonoC (allQ n) := fun xs Q Q' hq q => by
  unfold allQ at q ⊢
  split
  · obtain ⟨xs, bs, h, h2, q⟩ := q
    exact ⟨xs, bs, h, h2, hq _ q⟩
  · split at q
    · simp_all
    · exact q
theorem d_all : CallD g (rAll g.K) (allQ false) := by
  intro T F env σ H Hs xs vs Q Qv ok rs q k
  unfold allQ at q
  split at q
  · obtain ⟨v, rfl, r⟩ := rs1 (rs := []) rs
    obtain ⟨ds, bs, h, h2, q⟩ := q
    obtain ⟨a, us, rfl, h3, h4⟩ := asL_rep ok h r
    have e := bools_rep h2 h4
    subst e
    exact ⟨a, bs, rfl, .inl (.inl h3), k _ F H _ q ok.refl ok (by simp only [RepR, Rep]; rfl)⟩
  · exact q.elim
def max2Q : QC := fun rs Q => match rs with
  | [.val (.int i), .val (.int j)] => Q (.val (.int (if j > i then j else i)))
  | _ => False
def min2Q : QC := fun rs Q => match rs with
  | [.val (.int i), .val (.int j)] => Q (.val (.int (if j < i then j else i)))
  | _ => False
theorem mono_max2Q : MonoC max2Q := fun xs Q Q' hq q => by
  unfold max2Q at q ⊢
  split
  · exact hq _ q
  · split at q
    · simp_all
    · exact q
theorem mono_min2Q : MonoC min2Q := fun xs Q Q' hq q => by
  unfold min2Q at q ⊢
  split
  · exact hq _ q
  · split at q
    · simp_all
    · exact q
theorem d_max2 : CallD g (fun xs H Q => ∃ i j, xs = [.int i, .int j] ∧ Q (.int (if j > i then j else i)) H) max2Q := by
  intro T F env σ H Hs xs vs Q Qv ok rs q k
  unfold max2Q at q
  split at q
  · obtain ⟨v, u, rfl, r1, r2⟩ := rs2 rs
    simp only [RepR, Rep] at r1 r2
    subst r1; subst r2
    exact ⟨_, _, rfl, k _ F H _ q ok.refl ok (by simp only [RepR, Rep])⟩
  · exact q.elim
theorem d_min2 : CallD g (fun xs H Q => ∃ i j, xs = [.int i, .int j] ∧ Q (.int (if j < i then j else i)) H) min2Q := by
  intro T F env σ H Hs xs vs Q Qv ok rs q k
  unfold min2Q at q
  split at q
  · obtain ⟨v, u, rfl, r1, r2⟩ := rs2 rs
    simp only [RepR, Rep] at r1 r2
    subst r1; subst r2
    exact ⟨_, _, rfl, k _ F H _ q ok.refl ok (by simp only [RepR, Rep])⟩
  · exact q.elim
def tyName : D → Option String
  | .non => some "NoneType"
  | .bl _ => some "bool"
  | .int _ => some "int"
  | .str _ => some "str"
  | .tup _ => some "tuple"
  | .lst _ => some "list"
  | _ => none
def isiQ : QC := fun rs Q => match rs with
  | [x, .val (.ty n)] => ∃ d t b, asD x = some d ∧ tyName d = some t ∧ kitB t n = some b ∧ Q (.val (.bl b))
  | _ => False
theorem mono_isiQ : MonoC isiQ := fun xs Q Q' hq q => by
  unfold isiQ at q ⊢
  split
  · obtain ⟨d, t, b, h1, h2, h3, q⟩ := q
    exact ⟨d, t, b, h1, h2, h3, hq _ q⟩
  · split at q
    · simp_all
    · exact q
theorem ty_of {K : PySem.W.Frag} {H : Hp} {d : D} {t : String} (h : tyName d = some t) (r : Rep K H d v) : TyX K H v (.type t) := by
  cases d <;> simp only [tyName, Option.some.injEq, reduceCtorEq] at h <;> subst h <;> simp only [Rep] at r
  · subst r; exact .base .non
  · subst r; exact .base (.bl _)
  · subst r; exact .base (.int _)
  · subst r; exact .base (.str _)
  · obtain ⟨a, vs, rfl, h1, h2⟩ := r
    rcases h1 with (h1 | ⟨o, h1⟩) | ⟨o, its, n, h1, hc, _⟩
    · exact .base (.tup h1)
    · exact .fTuple h1
    · exact .kTuple h1 hc
  · obtain ⟨a, vs, rfl, h1, h2⟩ := r
    exact .base (.lst h1)
theorem d_isi : CallD g (rIsi g.K) isiQ := by
  intro T F env σ H Hs xs vs Q Qv ok rs q k
  unfold isiQ at q
  split at q
  · obtain ⟨v, u, rfl, r1, r2⟩ := rs2 rs
    obtain ⟨d, t, b, h1, h2, h3, q⟩ := q
    simp only [RepR, Rep] at r2
    subst r2
    exact ⟨_, _, _, _, b, rfl, .ty _, ty_of h2 (asD_rep ok h1 r1), kit_ty h3, k _ F H _ q ok.refl ok (by simp only [RepR, Rep])⟩
  · exact q.elim
def vals : List RV → Option (List D)
  | [] => some []
  | .val d :: rs => (vals rs).map (d :: ·)
  | _ => none
theorem vals_rep : ∀ {rs : List RV} {ds : List D} {vs : List V}, vals rs = some ds → RepRs g Hs F H env σ rs vs → RepL g.K F ds vs
  | [], _, _, h, r => by
    simp only [vals, Option.some.injEq] at h
    subst h
    exact repL_nil.mpr r
  | x :: rs, _, _, h, r => by
    obtain ⟨v, u, rfl, h1, h2⟩ := r
    unfold vals at h
    split at h
    · rename_i e; cases e
    · rename_i d rs' e
      cases e
      cases e2 : vals rs with
      | none => rw [e2] at h; cases h
      | some ds =>
        rw [e2] at h
        simp only [Option.map_some, Option.some.injEq] at h
        subst h
        exact repL_cons.mpr ⟨v, u, rfl, h1, vals_rep e2 h2⟩
    · cases h
def eTup (fa : AD) : ED := fun env Q E => fa env (fun rs => ∃ ds, vals rs = some ds ∧ ds.length ≤ LIM ∧ Q (.val (.tup ds))) E
def eLst (fa : AD) : ED := fun env Q E => fa env (fun rs => ∃ ds, vals rs = some ds ∧ ds.length ≤ LIM ∧ Q (.own ds)) E
theorem de_tup {es : List Expr} {fa : AD} {x1} {pos : Pos} (ha : DA X g W ca es fa) : DE X g W ca (.Tuple es x1 pos) (eTup fa) := by
  refine ⟨PEimp (pe_tup ha.pa) fun σ H Q ⟨T, F, env, hT, ok, h⟩ => ?_, fun env Q Q' E E' hq he h => ha.mono env _ _ _ _ (fun rs ⟨ds, h1, h2, q⟩ => ⟨ds, h1, h2, hq _ q⟩) he h⟩
  refine run_a ok (by omega) ha.mono h (fun rs ⟨ds, h1, h2, q⟩ F1 H1 vs w o rx => ?_) (exE.shift ok.refl (by omega))
  have r := vals_rep h1 rx
  refine ⟨lim_line (by rw [← r.length]; exact h2), fun p hp => q _ _ _ (w.trans (Grow.newF o.fh o.sto.free o.sto.some hp)) (o.newF hp) ?_⟩
  simp only [RepR, Rep]
  exact ⟨p, vs, rfl, .inl (.inl upd_same), r.mono (Evl.Ex.new (Evl.fresh_back o.fh hp))⟩
theorem de_lst {es : List Expr} {fa : AD} {pos : Pos} (ha : DA X g W ca es fa) : DE X g W ca (.List es pos) (eLst fa) := by
  refine ⟨PEimp (pe_lst ha.pa) fun σ H Q ⟨T, F, env, hT, ok, h⟩ => ?_, fun env Q Q' E E' hq he h => ha.mono env _ _ _ _ (fun rs ⟨ds, h1, h2, q⟩ => ⟨ds, h1, h2, hq _ q⟩) he h⟩
  refine run_a ok (by omega) ha.mono h (fun rs ⟨ds, h1, h2, q⟩ F1 H1 vs w o rx => ?_) (exE.shift ok.refl (by omega))
  have r := vals_rep h1 rx
  exact ⟨lim_line (by rw [← r.length]; exact h2), fun p hp => q _ _ _ (w.trans (Grow.new o.fh o.sto.free hp)) (o.new hp) ((RepR.made o hp r).since w)⟩
def truQ (x : RV) (Q : Bool → Prop) : Prop := match x with
  | .val .non => Q false
  | .val (.bl b) => Q b
  | .val (.int i) => Q (i != 0)
  | .val (.str s) => s.length ≤ LIM ∧ Q ((s.length : Int) != 0)
  | x => ∃ xs, asSeq x = some xs ∧ Q (!xs.isEmpty)
def tTruD (fa : ED) : TD := fun env Q E => frz fa env (fun x => truQ x Q) E
theorem mono_truQ {x : RV} {Q Q' : Bool → Prop} (hq : ∀ b, Q b → Q' b) (q : truQ x Q) : truQ x Q' := by
  unfold truQ at q ⊢
  split
  · exact hq _ q
  · exact hq _ q
  · exact hq _ q
  · exact ⟨q.1, hq _ q.2⟩
  · split at q
    · simp_all
    · simp_all
    · simp_all
    · simp_all
    · obtain ⟨xs, h, q⟩ := q
      exact ⟨xs, h, hq _ q⟩
theorem isEmpty_repL {K : PySem.W.Frag} {ds : List D} {vs : List V} (r : RepL K F ds vs) : ds.isEmpty = vs.isEmpty := by
  cases ds with
  | nil => rw [repL_nil] at r; subst r; rfl
  | cons d ds => rw [repL_cons] at r; obtain ⟨v, u, rfl, _⟩ := r; rfl
theorem dt_tru (cy : Cy X g W) {e : Expr} {fa : ED} (ha : DE X g W ca e fa) (he : ∀ whole, isTrue e X.env whole = (do let v ← whole; standAt e.pos; holding [v] (truthy v)) := by intro _; rfl) : DT X g W ca e (tTruD fa) := by
  have hp := pt_truth ha.frz.pe he
  rw [cy.k] at hp
  refine ⟨PTimp hp fun σ H Q ⟨T, F, env, hT, ok, h⟩ => ?_, fun env Q Q' E E' hq he h => ha.frz.mono env _ _ _ _ (fun x q => mono_truQ hq q) he h⟩
  refine run_e ok (by omega) ha.frz.mono h (fun x q F1 H1 v w o rx => ?_) (exE.shift ok.refl (by omega))
  unfold truQ at q
  split at q
  · simp only [RepR, Rep] at rx; subst rx; exact ⟨false, rfl, q F1 H1 w o⟩
  · simp only [RepR, Rep] at rx; subst rx; exact ⟨_, rfl, q F1 H1 w o⟩
  · simp only [RepR, Rep] at rx; subst rx; exact ⟨_, rfl, q F1 H1 w o⟩
  · simp only [RepR, Rep] at rx; subst rx; exact ⟨_, ⟨lim_line q.1, rfl⟩, q.2 F1 H1 w o⟩
  · obtain ⟨ds, h1, q⟩ := q
    obtain ⟨a, us, rfl, h2, h3⟩ := asSeq_rep o h1 rx
    refine ⟨_, ?_, q F1 H1 w o⟩
    rw [isEmpty_repL h3]
    rcases h2 with h2 | h2
    · exact .inl ⟨us, h2, rfl⟩
    · exact .inr (.inl ⟨us, h2, rfl⟩)
end
end DL
namespace DL
open PySem PySem.Spec L2
structure Wk (g : G) (J : It) (items : List D) (Fs : Hp) : Prop where
  go : ∀ {i : Nat} {F H : Hp}, Ex Fs F → Ex F H → i < items.length → J.go i H
  stop : ∀ {i : Nat} {F H : Hp}, Ex Fs F → Ex F H → items.length ≤ i → J.stop i H
  yld : ∀ {i T : Nat} {F H : Hp} {env : En} {σ : St} {x : V} {H' : Hp}, i < items.length → Ex Fs F → Ok g T F env σ H → J.yld i H x H' → ∃ d F', items[i]? = some d ∧ Grow g.st F H F' H' ∧ Ok g T F' env σ H' ∧ Rep g.K F' d x
abbrev ID := En → (List D → Prop) → (Exc → Prop) → Prop
def tDI (g : G) (W : WX) (c : Nat) (f : ID) : TI := fun σ H R => ∃ T F env, T + c ≤ T + c ∧ Ok g T F env σ H ∧ f env (fun items => ∀ F' H' J, Grow g.st F H F' H' → Ok g (T + c) F' env σ H' → Wk g J items F' → R J H') (exE g T c F env σ H W)
structure DI (X : Cx) (g : G) (W : WX) (c : Nat) (tg e : Expr) (f : ID) : Prop where
  pi : PI X tg e (tDI g W c f)
  mono : MonoE f
theorem PIimp {X : Cx} {tg e : Expr} {t t' : TI} (h : PI X tg e t) (i : ∀ σ H Q, t' σ H Q → t σ H Q) : PI X tg e t' := ⟨fun pins s σ H Q I q => h.run pins s σ H Q I (i σ H Q q)⟩
section
variable {X : Cx} {g : G} {W : WX} {T ca cb cc : Nat} {F H Hs Fs : Hp} {env : En} {σ : St} {x y r : RV} {v w : V} {xs ys : List D} {tg : Expr} {fa : ED}
theorem wk_seq {a : Addr} {vs : List V} {items : List D} (hl : RepL g.K Fs items vs) {J : It} (gs : (∀ (i : Nat) F H x, Ex Fs F → Ex F H → vs[i]? = some x → J.go i H)) (ss : ∀ (i : Nat) F H, Ex Fs F → Ex F H → vs.length ≤ i → J.stop i H)
    (ys : ∀ (i : Nat) F H x H', Ex Fs F → Ex F H → J.yld i H x H' → H' = H ∧ vs[i]? = some x) : Wk g J items Fs := by
  refine ⟨fun {i F H} e1 e2 h => ?_, fun {i F H} e1 e2 h => ss i F H e1 e2 (by rw [← hl.length]; exact h), fun {i T F H env σ x H'} hlt e1 ok h => ?_⟩
  · have h2 : i < vs.length := by rw [← hl.length]; exact h
    exact gs i F H _ e1 e2 (List.getElem?_eq_getElem h2)
  · obtain ⟨rfl, h2⟩ := ys i F H x H' e1 ok.fh h
    obtain ⟨d, h3, h4⟩ := hl.back h2
    exact ⟨d, F, h3, ok.refl, ok, h4.mono e1⟩
theorem wk_list {a : Addr} {vs : List V} {items : List D} (h : Fs a = some (.lst vs)) (hl : RepL g.K Fs items vs) : Wk g (Itl g.K a) items Fs := by
  have sq : ∀ {F H : Hp}, Ex Fs F → Ex F H → SqL g.K H a vs := fun e1 e2 => .inl (.inl (e2 _ _ (e1 _ _ h)))
  refine wk_seq (a := a) hl (fun i F H x e1 e2 hx => ⟨vs, x, sq e1 e2, hx⟩) (fun i F H e1 e2 hx => ⟨vs, sq e1 e2, hx⟩) (fun i F H x H' e1 e2 hy => ⟨hy.1, hy.2 _ (sq e1 e2)⟩)
theorem wk_tup {a : Addr} {vs : List V} {items : List D} (h : SqT g.K Fs a vs) (hl : RepL g.K Fs items vs) : Wk g (Itt g.K a) items Fs := by
  have sq : ∀ {F H : Hp}, Ex Fs F → Ex F H → SqT g.K H a vs := fun e1 e2 => Evl.ex_t e2 (Evl.ex_t e1 h)
  refine wk_seq (a := a) hl (fun i F H x e1 e2 hx => ⟨vs, x, sq e1 e2, hx⟩) (fun i F H e1 e2 hx => ⟨vs, sq e1 e2, hx⟩) (fun i F H x H' e1 e2 hy => ⟨hy.1, hy.2 _ (sq e1 e2)⟩)
def signsD (s : Str) : List D := s.cps.toList.map fun c => D.str ⟨#[c]⟩
theorem wk_str {s : Str} : Wk g (Its s) (signsD s) Fs := by
  refine ⟨fun {i F H} e1 e2 h => ?_, fun {i F H} e1 e2 h => ?_, fun {i T F H env σ x H'} hlt e1 ok h => ?_⟩
  · have : i < s.cps.size := by simpa [signsD] using h
    exact this
  · have : s.cps.size ≤ i := by simpa [signsD] using h
    exact this
  · obtain ⟨rfl, c, h1, rfl⟩ := h
    refine ⟨.str ⟨#[c]⟩, F, ?_, ok.refl, ok, by simp only [Rep]⟩
    simp only [signsD, List.getElem?_map, Array.getElem?_toList, h1, Option.map_some]
def rangeD (lo : Int) (n : Nat) : List D := (List.range n).map fun i => D.int (lo + (i : Nat))
theorem wk_range {lo : Int} {n : Nat} : Wk g (Itr lo n) (rangeD lo n) Fs := by
  refine ⟨fun {i F H} e1 e2 h => ?_, fun {i F H} e1 e2 h => ?_, fun {i T F H env σ x H'} hlt e1 ok h => ?_⟩
  · have : i < n := by simpa [rangeD] using h
    exact this
  · have : n ≤ i := by simpa [rangeD] using h
    exact this
  · obtain ⟨rfl, rfl⟩ := h
    have hl : i < n := by simpa [rangeD] using hlt
    refine ⟨.int (lo + i), F, ?_, ok.refl, ok, by simp only [Rep]⟩
    simp only [rangeD, List.getElem?_map, List.getElem?_range hl, Option.map_some]
def iAny (K : PySem.W.Frag) (te : TE) : TI := fun σ H R => te σ H fun v H1 => (∃ a, v = .ref a ∧ (∃ xs, SqL K H1 a xs) ∧ R (Itl K a) H1) ∨ (∃ a, v = .ref a ∧ (∃ xs, SqT K H1 a xs) ∧ R (Itt K a) H1) ∨ ∃ x, v = .str x ∧ R (Its x) H1
open PyProof.Rows in
theorem pi_any {e : Expr} {te : TE} (he : PE X e te) : PI X tg e (iAny X.K te) := by
  refine ⟨fun pins s σ H R I h => ?_⟩
  refine thn (he.run pins s σ H _ I h) fun v s1 ⟨x, H1, I1, r1, q1⟩ => ?_
  rcases q1 with ⟨a, e, ⟨xs, hq⟩, q⟩ | ⟨a, e, ⟨xs, hq⟩, q⟩ | ⟨z, ex, q⟩
  · subst e
    cases r1
    obtain ⟨its, rv, p, hz⟩ := I1.list hq
    refine wpAny_pyIter_list p.isList ?_
    refine ⟨s1.heap.objs.size, [s1.heap.objs.size], _, _, H1, rfl, I1.kept (t' := s1.toks)
        fun b o e => Heap.get?_push_of_some _ e, turn_list a _, ⟨_, Heap.get?_push_size _ rfl, rfl, rfl⟩, fun b hb => ?_, q⟩
    have e : b = s1.heap.objs.size
        := by simpa using hb
    subst e
    exact I1.fpOk (Nat.le_refl _)
        (I1.hok.fresh (Nat.le_refl _))
  · subst e
    cases r1
    obtain ⟨its, rv, p, hz⟩ := I1.tuple hq
    refine wpAny_pyIter_tuple
        (show s1.heap.IsTuple a its.toArray from p) ?_
    refine ⟨s1.heap.objs.size, [s1.heap.objs.size], _, _, H1, rfl, I1.kept (t' := s1.toks)
        fun b o e => Heap.get?_push_of_some _ e, turn_tuple a _, ⟨_, Heap.get?_push_size _ rfl, rfl, rfl⟩, fun b hb => ?_, q⟩
    have e : b = s1.heap.objs.size
        := by simpa using hb
    subst e
    exact I1.fpOk (Nat.le_refl _)
        (I1.hok.fresh (Nat.le_refl _))
  · subst ex
    obtain ⟨t, rfl⟩ := r1
    cases ha : z.cps.all (· < 128)
    · exact wpAny_pyIter_wide ha (pi_one (tk := s1.toks) I1 _ (turn_str _ z t "str_iterator" (.inr rfl)) ⟨_, Heap.get?_push_size _ rfl, rfl, rfl⟩ q)
    · exact wpAny_pyIter_ascii ha (pi_one (tk := s1.toks) I1 _ (turn_str _ z t "str_ascii_iterator" (.inl rfl)) ⟨_, Heap.get?_push_size _ rfl, rfl, rfl⟩ q)
def itemsQ (x : RV) (Q : List D → Prop) : Prop := match x with
  | .val (.lst xs) => Q xs
  | .val (.tup xs) => Q xs
  | .val (.str s) => Q (signsD s)
  | _ => False
def iAnyD (fa : ED) : ID := fun env Q E => frz fa env (fun x => itemsQ x Q) E
theorem mono_itemsQ {x : RV} {Q Q' : List D → Prop} (hq : ∀ b, Q b → Q' b) (q : itemsQ x Q) : itemsQ x Q' := by
  unfold itemsQ at q ⊢
  split
  · exact hq _ q
  · exact hq _ q
  · exact hq _ q
  · split at q
    · simp_all
    · simp_all
    · simp_all
    · exact q
theorem di_any (cy : Cy X g W) {e : Expr} (ha : DE X g W ca e fa) : DI X g W ca tg e (iAnyD fa) := by
  have hp := pi_any (tg := tg) ha.frz.pe
  rw [cy.k] at hp
  refine ⟨PIimp hp fun σ H R ⟨T, F, env, hT, ok, h⟩ => ?_, fun env Q Q' E E' hq he h => ha.frz.mono env _ _ _ _ (fun x q => mono_itemsQ hq q) he h⟩
  refine run_e ok (by omega) ha.frz.mono h (fun x q F1 H1 v w o rx => ?_) (exE.shift ok.refl (by omega))
  unfold itemsQ at q
  split at q
  · simp only [RepR, Rep] at rx
    obtain ⟨a, vs, rfl, h1, h2⟩ := rx
    exact .inl ⟨a, rfl, ⟨vs, .inl (.inl (o.fh _ _ h1))⟩, q F1 H1 _ w o (wk_list h1 h2)⟩
  · simp only [RepR, Rep] at rx
    obtain ⟨a, vs, rfl, h1, h2⟩ := rx
    exact .inr (.inl ⟨a, rfl, ⟨vs, Evl.ex_t o.fh h1⟩, q F1 H1 _ w o (wk_tup h1 h2)⟩)
  · simp only [RepR, Rep] at rx
    exact .inr (.inr ⟨_, rx, q F1 H1 _ w o wk_str⟩)
  · exact q.elim
def iRange1 (fa : AD) : ID := fun env Q E => fa env (fun rs => ∃ n, rs = [.val (.int n)] ∧ n ≤ 100000 ∧ -100000 ≤ n ∧ Q (rangeD 0 n.toNat)) E
def iRange2 (fa : AD) : ID := fun env Q E => fa env (fun rs => ∃ i n, rs = [.val (.int i), .val (.int n)] ∧ i ≤ 100000 ∧ -100000 ≤ i ∧ n ≤ 100000 ∧ -100000 ≤ n ∧ Q (rangeD i (n - i).toNat)) E
theorem di_range1 {a : Expr} {fa : AD} {p pos : Pos} (hg : Gl X "range") (hm : X.mg "range" = none) (ha : DA X g W ca [a] fa) (hs : starEach [a] X.env = [(false, eval a X.env)] := by rfl) : DI X g W ca tg (.Call (.Name "range" p) [a] [] pos) (iRange1 fa) := by
  refine ⟨PIimp (pi_range1 hg hm ha.pa hs) fun σ H R ⟨T, F, env, hT, ok, h⟩ => ?_, fun env Q Q' E E' hq he h => ha.mono env _ _ _ _ (fun rs ⟨n, h1, h2, h3, q⟩ => ⟨n, h1, h2, h3, hq _ q⟩) he h⟩
  refine run_a ok (by omega) ha.mono h (fun rs ⟨n, h1, h2, h3, q⟩ F1 H1 vs w o rx => ?_) (exE.shift ok.refl (by omega))
  subst h1
  obtain ⟨v, rfl, r⟩ := rs1 (rs := []) rx
  simp only [RepR, Rep] at r
  subst r
  exact ⟨n, rfl, by omega, by omega, q F1 H1 _ w o wk_range⟩
theorem di_range2 {a b : Expr} {fa : AD} {p pos : Pos} (hg : Gl X "range") (hm : X.mg "range" = none) (ha : DA X g W ca [a, b] fa) (hs : starEach [a, b] X.env = [(false, eval a X.env), (false, eval b X.env)] := by rfl) (hs2 : starEach [b] X.env = [(false, eval b X.env)] := by rfl) : DI X g W ca tg (.Call (.Name "range" p) [a, b] [] pos) (iRange2 fa) := by
  refine ⟨PIimp (pi_range2 hg hm ha.pa hs hs2) fun σ H R ⟨T, F, env, hT, ok, h⟩ => ?_, fun env Q Q' E E' hq he h => ha.mono env _ _ _ _ (fun rs ⟨i, n, h1, h2, h3, h4, h5, q⟩ => ⟨i, n, h1, h2, h3, h4, h5, hq _ q⟩) he h⟩
  refine run_a ok (by omega) ha.mono h (fun rs ⟨i, n, h1, h2, h3, h4, h5, q⟩ F1 H1 vs w o rx => ?_) (exE.shift ok.refl (by omega))
  subst h1
  obtain ⟨v, u, rfl, r, r2⟩ := rs2 rx
  simp only [RepR, Rep] at r r2
  subst r; subst r2
  exact ⟨i, n, rfl, ⟨by omega, by omega, by omega, by omega⟩, q F1 H1 _ w o wk_range⟩
abbrev BD := D → En → (En → Prop) → Prop
def Kept (sl : List Nat) (σ σ' : St) : Prop := ∀ vs : List Nat, (∀ i ∈ sl, i ∈ vs) → wipe σ' vs = wipe σ vs
theorem Kept.refl {sl : List Nat} {σ : St} : Kept sl σ σ := fun _ _ => rfl
theorem Kept.trans {s1 s2 : List Nat} {σ σ1 σ2 : St} (a : Kept s1 σ σ1) (b : Kept s2 σ1 σ2) : Kept (s1 ++ s2) σ σ2 := fun vs h => (b vs fun i hi => h i (List.mem_append_right _ hi)).trans (a vs fun i hi => h i (List.mem_append_left _ hi))
theorem wipe_get (σ : St) : ∀ (vs : List Nat) (i : Nat), (wipe σ vs)[i]? = if i ∈ vs ∧ i < σ.length then some none else σ[i]?
  | [], i => by simp [wipe]
  | v :: vs, i => by
    unfold wipe
    by_cases e : v = i
    · subst e
      rw [List.getElem?_set]
      simp only [if_true, wipe_length]
      by_cases h : v < σ.length
      · rw [if_pos h, if_pos ⟨List.mem_cons_self, h⟩]
      · rw [if_neg h, if_neg (fun z => h z.2)]
        rw [List.getElem?_eq_none (by omega)]
    · rw [List.getElem?_set_ne e, wipe_get σ vs i]
      by_cases h : i ∈ vs ∧ i < σ.length
      · rw [if_pos h, if_pos ⟨List.mem_cons_of_mem _ h.1, h.2⟩]
      · rw [if_neg h, if_neg]
        rintro ⟨h1, h2⟩
        rcases List.mem_cons.mp h1 with h1 | h1
        · exact e h1.symm
        · exact h ⟨h1, h2⟩
theorem kept_set (σ : St) (i : Nat) (o : Option V) : Kept [i] σ (σ.set i o) := fun vs h => by
  apply List.ext_getElem?
  intro k
  rw [wipe_get, wipe_get, List.length_set]
  by_cases e : i = k
  · subst e
    have hm := h i (by simp)
    by_cases hl : i < σ.length
    · rw [if_pos ⟨hm, hl⟩, if_pos ⟨hm, hl⟩]
    · rw [if_neg (fun z => hl z.2), if_neg (fun z => hl z.2), List.getElem?_eq_none (by rw [List.length_set]; omega), List.getElem?_eq_none (by omega)]
  · rw [List.getElem?_set_ne e]
structure DG (X : Cx) (g : G) (tg : Expr) (b : BD) (sl : List Nat) (t : TG) : Prop where
  pg : PG X tg t
  snd : ∀ {T : Nat} {F : Hp} {env : En} {σ : St} {H : Hp} {d : D} {v : V} {P : En → Prop} {Q : St → Hp → Prop}, Ok g T F env σ H → Rep g.K F d v → b d env P → (∀ env' σ', Ok g T F env' σ' H → Kept sl σ σ' → P env' → Q σ' H) → t v σ H Q
  mono : ∀ d env P P', (∀ e, P e → P' e) → b d env P → b d env P'
theorem Ok.set {d : D} (ok : Ok g T F env σ H) (j : Nat) (r : Rep g.K F d v) : Ok g T F (env.set j (some (.val d))) (σ.set j (some v)) H := by
  refine ⟨ok.grow, ok.sto, by rw [List.length_set, List.length_set]; exact ok.len, fun i d' e => ?_, fun i e => ?_, fun i ys e => ?_, fun i k ys zs hne e e' => ?_⟩
  · by_cases h : j = i
    · subst h
      rw [List.getElem?_set] at e ⊢
      simp only [if_true] at e ⊢
      have hl := ok.len
      split at e
      · simp only [Option.some.injEq, SV.val.injEq] at e
        subst e
        rename_i hlt
        rw [if_pos (by omega)]
        exact ⟨v, rfl, r⟩
      · cases e
    · rw [List.getElem?_set_ne h] at e ⊢
      exact ok.val i d' e
  · by_cases h : j = i
    · subst h
      rw [List.getElem?_set] at e
      simp only [if_true] at e
      split at e <;> simp at e
    · rw [List.getElem?_set_ne h] at e ⊢
      exact ok.stor i e
  · by_cases h : j = i
    · subst h
      rw [List.getElem?_set] at e
      simp only [if_true] at e
      split at e <;> simp at e
    · rw [List.getElem?_set_ne h] at e ⊢
      exact ok.own i ys e
  · have h1 : j ≠ i := fun z => by
      subst z
      rw [List.getElem?_set] at e
      simp only [if_true] at e
      split at e <;> simp at e
    have h2 : j ≠ k := fun z => by
      subst z
      rw [List.getElem?_set] at e'
      simp only [if_true] at e'
      split at e' <;> simp at e'
    rw [List.getElem?_set_ne h1] at e
    rw [List.getElem?_set_ne h2] at e'
    rw [List.getElem?_set_ne h1, List.getElem?_set_ne h2]
    exact ok.dis i k ys zs hne e e'
def bName (j : Nat) : BD := fun d env P => P (env.set j (some (.val d)))
theorem dg_name (i : Nat) {x : Str} {pos : Pos} (hN : X.N.Nodup) (hi : X.N[i]? = some x := by rfl) (hx : Loc X.env.scope x := by first | exact Or.inl rfl | exact Or.inr rfl) (hf : X.fn x = true ∨ X.env.scope.names.lookup x = some .local := by first | exact .inl rfl | exact .inr rfl | assumption) :
    DG X g (.Name x pos) (bName i) [i] (gName i) := ⟨pg_name hN hi hx hf, fun ok r b k => k _ _ (ok.set i r) (kept_set _ _ _) b, fun d env P P' h b => h _ b⟩
structure DGs (X : Cx) (g : G) (tg : List Expr) (b : List D → En → (En → Prop) → Prop) (sl : List Nat) (t : TGs) : Prop where
  pg : PGs X tg t
  snd : ∀ {T : Nat} {F : Hp} {env : En} {σ : St} {H : Hp} {d : List D} {v : List V} {P : En → Prop} {Q : St → Hp → Prop}, Ok g T F env σ H → RepL g.K F d v → b d env P → (∀ env' σ', Ok g T F env' σ' H → Kept sl σ σ' → P env' → Q σ' H) → t v σ H Q
  mono : ∀ d env P P', (∀ e, P e → P' e) → b d env P → b d env P'
def bNil : List D → En → (En → Prop) → Prop := fun ds env P => ds = [] ∧ P env
def bCons (b : BD) (bs : List D → En → (En → Prop) → Prop) : List D → En → (En → Prop) → Prop := fun ds env P => match ds with
  | [] => False
  | d :: ds => b d env (fun env' => bs ds env' P)
theorem dgs_nil : DGs X g [] bNil [] gNil := ⟨pgs_nil, fun ok r b k => by
  obtain ⟨rfl, b⟩ := b
  exact ⟨repL_nil.mp r, k _ _ ok Kept.refl b⟩, fun d env P P' h b => ⟨b.1, h _ b.2⟩⟩
theorem dgs_cons {e : Expr} {es : List Expr} {b : BD} {bs : List D → En → (En → Prop) → Prop} {s1 s2 : List Nat} {t : TG} {u : TGs} (h : DG X g e b s1 t) (hs : DGs X g es bs s2 u) (ha : (assignEach (e :: es) X.env).map (·.2) = assign e X.env :: (assignEach es X.env).map (·.2) := by rfl) : DGs X g (e :: es) (bCons b bs) (s1 ++ s2) (gCons t u) := by
  refine ⟨pgs_cons h.pg hs.pg ha, fun {T F env σ H d v P Q} ok r q k => ?_, fun d env P P' hp q => ?_⟩
  · cases d with
    | nil => exact q.elim
    | cons d ds =>
      obtain ⟨v, r', rfl, r1, r2⟩ := repL_cons.mp r
      exact ⟨v, r', rfl, h.snd ok r1 q fun env' σ' ok' k1 q' => hs.snd ok' r2 q' fun env2 σ2 ok2 k2 q2 => k env2 σ2 ok2 (k1.trans k2) q2⟩
  · cases d with
    | nil => exact q.elim
    | cons d ds => exact h.mono _ _ _ _ (fun e q => hs.mono _ _ _ _ hp q) q
def bTup (n : Nat) (bs : List D → En → (En → Prop) → Prop) : BD := fun d env P => match d with
  | .tup ds => ds.length = n ∧ bs ds env P
  | _ => False
theorem dg_tup (cy : Cy X g W) {es : List Expr} {k n : Nat} {pos : Pos} {bs : List D → En → (En → Prop) → Prop} {sl : List Nat} {t : TGs} (h : DGs X g es bs sl t) (hn : (assignEach es X.env).length = n := by rfl) (hst : (assignEach es X.env).findIdx? (·.1) = none := by rfl) (hc : X.calm = true := by rfl) : DG X g (.Tuple es k pos) (bTup n bs) sl (gTup g.K n t) := by
  have hp := pg_tup (pos := pos) (k := k) hc h.pg hn hst
  rw [cy.k] at hp
  refine ⟨hp, fun {T F env σ H d v P Q} ok r q k => ?_, fun d env P P' hp q => ?_⟩
  · unfold bTup at q
    split at q
    · rename_i ds
      simp only [Rep] at r
      obtain ⟨a, vs, rfl, r1, r2⟩ := r
      exact ⟨a, vs, rfl, Evl.ex_t ok.fh r1, by rw [← r2.length]; exact q.1, h.snd ok r2 q.2 k⟩
    · exact q.elim
  · unfold bTup at q ⊢
    split
    · exact ⟨q.1, h.mono _ _ _ _ hp q.2⟩
    · split at q
      · simp_all
      · exact q
end
end DL
namespace DL
open PySem PySem.Spec L2
structure DEn where
  nx : En → Prop
  rt : RV → Prop
  bk : En → Prop
  ct : En → Prop
  ex : En → Exc → Prop
structure DEn.le (A B : DEn) : Prop where
  nx : ∀ e, A.nx e → B.nx e
  rt : ∀ e, A.rt e → B.rt e
  bk : ∀ e, A.bk e → B.bk e
  ct : ∀ e, A.ct e → B.ct e
  ex : ∀ e x, A.ex e x → B.ex e x
theorem DEn.le.refl (A : DEn) : A.le A := ⟨fun _ h => h, fun _ h => h, fun _ h => h, fun _ h => h, fun _ _ h => h⟩
abbrev SD := DEn → En → Prop
def MonoS (f : SD) : Prop := ∀ A B env, A.le B → f A env → f B env
def RetR (K : PySem.W.Frag) (st : Addr) (Hs F H : Hp) : RV → V → Prop
  | .val d, v => Rep K F d v
  | .own xs, v => ∃ a, v = .ref a ∧ a ≠ st ∧ Hs a = none ∧ F a = none ∧ ∃ vs, H a = some (.lst vs) ∧ RepL K F xs vs
  | .sto, v => v = .ref st
  | .bor _, _ => False
def okN (g : G) (T : Nat) (F : Hp) (P : St → Hp → Prop) : En → Prop := fun env' => ∀ F' σ' H', Ex F F' → Ok g T F' env' σ' H' → P σ' H'
def okR (g : G) (T : Nat) (P : VK) : RV → Prop := fun r => ∀ F' H' v, Grow g.st g.F0 g.H0 F' H' → StoreAt g.K g.st T F' H' → RetR g.K g.st g.H0 F' H' r v → P v H'
def exS (g : G) (T : Nat) (F : Hp) (W : WX) : En → Exc → Prop := fun env' x => ∀ F' σ' H' d, Ex F F' → Ok g T F' env' σ' H' → RepX g.K F' x d → W (.ref x.C) d σ' H'
def enS (g : G) (W : WX) (T : Nat) (F : Hp) (D : Ends) : DEn := ⟨okN g T F D.nx, okR g T D.rt, okN g T F D.bk, okN g T F D.ct, exS g T F W⟩
def tDS (g : G) (W : WX) (c : Nat) (f : SD) : TS := fun D σ H => ∃ T F env, T + c ≤ T + c ∧ Ok g T F env σ H ∧ f (enS g W (T + c) F D) env
structure DS (X : Cx) (g : G) (W : WX) (c : Nat) (st : Stmt) (f : SD) : Prop where
  ps : PS X st (tDS g W c f)
  mono : MonoS f
structure DSs (X : Cx) (g : G) (W : WX) (c : Nat) (st : List Stmt) (f : SD) : Prop where
  ps : PSs X st (tDS g W c f)
  mono : MonoS f
theorem PSimp {X : Cx} {e : Stmt} {t t' : TS} (h : PS X e t) (i : ∀ D σ H, t' D σ H → t D σ H) : PS X e t' := ⟨fun pins s σ H D I q => h.run pins s σ H D I (i D σ H q)⟩
theorem PSsimp {X : Cx} {e : List Stmt} {t t' : TS} (h : PSs X e t) (i : ∀ D σ H, t' D σ H → t D σ H) : PSs X e t' := ⟨fun pins s σ H D I q => h.run pins s σ H D I (i D σ H q)⟩
section
variable {X : Cx} {g : G} {W : WX} {T T' ca cb cc : Nat} {F H F1 H1 Hs Fs : Hp} {env : En} {σ : St} {x y r : RV} {v w : V} {xs ys : List D} {fa : ED} {ta : TD} {sa sb : SD}
theorem okN.up {P : St → Hp → Prop} (e : Ex F F1) (l : T' ≤ T) {env : En} (h : okN g T F P env) : okN g T' F1 P env := fun F' σ' H' e' o => h F' σ' H' (e.trans e') (o.up l)
theorem okR.up {P : VK} (l : T' ≤ T) {r : RV} (h : okR g T P r) : okR g T' P r := fun F' H' v w s => h F' H' v w (s.up l)
theorem exS.up (e : Ex F F1) (l : T' ≤ T) {env : En} {x : Exc} (h : exS g T F W env x) : exS g T' F1 W env x := fun F' σ' H' d e' o => h F' σ' H' d (e.trans e') (o.up l)
theorem enS.up {D : Ends} (e : Ex F F1) (l : T' ≤ T) : (enS g W T F D).le (enS g W T' F1 D) := ⟨fun _ h => okN.up e l h, fun _ h => okR.up l h, fun _ h => okN.up e l h, fun _ h => okN.up e l h, fun _ _ h => exS.up e l h⟩
theorem exE.of (ok : Ok g T F env σ H) (l : T' + ca ≤ T + cc) (hT : T' = T) : ∀ x, exS g (T + cc) F W env x → exE g T' ca F env σ H W x := fun x h F' H' d w o r => h F' σ H' d w.ff (o.up (by omega)) r
def sNil : SD := fun D env => D.nx env
def sSeq (a b : SD) : SD := fun D env => a { D with nx := b D } env
theorem mono_seq (ha : MonoS sa) (hb : MonoS sb) : MonoS (sSeq sa sb) := fun A B env l h => ha { A with nx := sb A } { B with nx := sb B } env ⟨fun e q => hb A B e l q, l.rt, l.bk, l.ct, l.ex⟩ h
theorem dss_nil : DSs X g W 0 [] sNil := ⟨PSsimp pss_nil fun D σ H ⟨T, F, env, hT, ok, h⟩ => h F σ H (Evl.Ex.refl F) ok, fun A B env l h => l.nx _ h⟩
theorem dss_one {s : Stmt} (h : DS X g W ca s sa) : DSs X g W ca [s] sa := ⟨pss_one h.ps, h.mono⟩
theorem dss_cons {s : Stmt} {ss : List Stmt} (ha : DS X g W ca s sa) (hb : DSs X g W cb ss sb) : DSs X g W (ca + cb) (s :: ss) (sSeq sa sb) := by
  refine ⟨PSsimp (pss_cons ha.ps hb.ps) fun D σ H ⟨T, F, env, hT, ok, h⟩ => ?_, mono_seq ha.mono hb.mono⟩
  refine ⟨T, F, env, by omega, ok, ha.mono _ _ _ ⟨fun e q F' σ' H' e' o => ?_, fun r q => okR.up (by omega) q, fun e q => okN.up (Evl.Ex.refl F) (by omega) q, fun e q => okN.up (Evl.Ex.refl F) (by omega) q, fun e x q => exS.up (Evl.Ex.refl F) (by omega) q⟩ h⟩
  exact ⟨T + ca, F', e, by omega, o, hb.mono _ _ _ (enS.up e' (by omega)) q⟩
theorem ds_continue {pos : Pos} : DS X g W 0 (.Continue pos) (fun D env => D.ct env) := ⟨PSimp ps_continue fun D σ H ⟨T, F, env, hT, ok, h⟩ => h F σ H (Evl.Ex.refl F) ok, fun A B env l h => l.ct _ h⟩
def toSV : RV → Option SV
  | .val d => some (.val d)
  | .own xs => some (.own xs)
  | .sto => some .sto
  | .bor _ => none
def sAsg (i : Nat) (fa : ED) : SD := fun D env => fa env (fun r => ∃ s, toSV r = some s ∧ D.nx (env.set i (some s))) (D.ex env)
theorem mono_asg {i : Nat} (ha : MonoE fa) : MonoS (sAsg i fa) := fun A B env l h => ha env _ _ _ _ (fun r ⟨s, h1, q⟩ => ⟨s, h1, l.nx _ q⟩) (fun x q => l.ex _ _ q) h
theorem set_none {α : Type} {l : List (Option α)} {j i : Nat} {s t : α} (h : (l.set j (some s))[i]? = some (some t)) : (j = i ∧ j < l.length ∧ s = t) ∨ (j ≠ i ∧ l[i]? = some (some t)) := by
  by_cases e : j = i
  · subst e
    rw [List.getElem?_set] at h
    simp only [if_true] at h
    split at h
    · simp only [Option.some.injEq] at h
      exact .inl ⟨rfl, by assumption, h⟩
    · cases h
  · rw [List.getElem?_set_ne e] at h
    exact .inr ⟨e, h⟩
theorem Ok.setR {s : SV} (ok : Ok g T F env σ H) (j : Nat) (h : toSV r = some s) (rr : RepR g Hs F H env σ r v) (w0 : ∀ a, Hs a = none → g.H0 a = none ∨ a = g.st) : Ok g T F (env.set j (some s)) (σ.set j (some v)) H := by
  cases r with
  | val d => simp only [toSV, Option.some.injEq] at h; subst h; exact ok.set j rr
  | bor ys => simp [toSV] at h
  | sto =>
    simp only [toSV, Option.some.injEq] at h
    subst h
    have hl := ok.len
    refine ⟨ok.grow, ok.sto, by rw [List.length_set, List.length_set]; exact ok.len, fun i d' e => ?_, fun i e => ?_, fun i ys e => ?_, fun i k ys zs hne e e' => ?_⟩
    · rcases set_none e with ⟨_, _, z⟩ | ⟨n, e⟩
      · cases z
      · rw [List.getElem?_set_ne n]; exact ok.val i d' e
    · rcases set_none e with ⟨rfl, hlt, _⟩ | ⟨n, e⟩
      · rw [List.getElem?_set_self (by omega)]
        exact congrArg (fun z => some (some z)) rr
      · rw [List.getElem?_set_ne n]; exact ok.stor i e
    · rcases set_none e with ⟨_, _, z⟩ | ⟨n, e⟩
      · cases z
      · rw [List.getElem?_set_ne n]; exact ok.own i ys e
    · rcases set_none e with ⟨_, _, z⟩ | ⟨n, e⟩
      · cases z
      · rcases set_none e' with ⟨_, _, z⟩ | ⟨n', e'⟩
        · cases z
        · rw [List.getElem?_set_ne n, List.getElem?_set_ne n']; exact ok.dis i k ys zs hne e e'
  | own ys =>
    simp only [toSV, Option.some.injEq] at h
    subst h
    have hl := ok.len
    obtain ⟨a, rfl, o, no⟩ := rr
    have o0 : OwnAt g g.H0 F H a ys := ⟨o.ns, (w0 a o.new).resolve_right o.ns, o.nf, o.at'⟩
    refine ⟨ok.grow, ok.sto, by rw [List.length_set, List.length_set]; exact ok.len, fun i d' e => ?_, fun i e => ?_, fun i zs e => ?_, fun i k zs us hne e e' => ?_⟩
    · rcases set_none e with ⟨_, _, z⟩ | ⟨n, e⟩
      · cases z
      · rw [List.getElem?_set_ne n]; exact ok.val i d' e
    · rcases set_none e with ⟨_, _, z⟩ | ⟨n, e⟩
      · cases z
      · rw [List.getElem?_set_ne n]; exact ok.stor i e
    · rcases set_none e with ⟨rfl, hlt, z⟩ | ⟨n, e⟩
      · cases z
        rw [List.getElem?_set_self (by omega)]
        exact ⟨a, rfl, o0⟩
      · rw [List.getElem?_set_ne n]; exact ok.own i zs e
    · rcases set_none e with ⟨rfl, hlt, z⟩ | ⟨n, e⟩
      · rcases set_none e' with ⟨z', _, _⟩ | ⟨n', e'⟩
        · exact absurd z' hne
        · rw [List.getElem?_set_self (by omega), List.getElem?_set_ne n']
          exact fun z => no k us e' z.symm
      · rcases set_none e' with ⟨rfl, hlt, z⟩ | ⟨n', e'⟩
        · rw [List.getElem?_set_self (by omega), List.getElem?_set_ne n]
          exact no i zs e
        · rw [List.getElem?_set_ne n, List.getElem?_set_ne n']; exact ok.dis i k zs us hne e e'
theorem Ok.newOf (ok : Ok g T F env σ H) : ∀ a, H a = none → g.H0 a = none ∨ a = g.st := fun a h => by
  by_cases e : a = g.st
  · exact .inr e
  · left
    cases q : g.H0 a with
    | none => rfl
    | some x =>
      have z := ok.grow.hh a x e q
      rw [h] at z
      cases z
theorem ds_asg (i : Nat) {x : Str} {e : Expr} {pos pos' : Pos} (ha : DE X g W ca e fa) (hN : X.N.Nodup) (hi : X.N[i]? = some x := by rfl) (hx : Loc X.env.scope x := by first | exact Or.inl rfl | exact Or.inr rfl) (hs : swapsWith e (some (.Name x pos')) pos.line X.env = pure false := by rfl)
    (hf : X.fn x = true ∨ X.env.scope.names.lookup x = some .local := by first | exact .inl rfl | exact .inr rfl | assumption) : DS X g W ca (.Assign [.Name x pos'] e pos) (sAsg i fa) := by
  refine ⟨PSimp (ps_set hN hi hx ha.pe hs hf) fun D σ H ⟨T, F, env, hT, ok, h⟩ => ?_, mono_asg ha.mono⟩
  exact run_e ok hT ha.mono h (fun r ⟨s, h1, q⟩ F1 H1 v w o rr => q F1 _ H1 w.ff (o.setR i h1 rr ok.newOf)) (exE.of ok (Nat.le_refl _) rfl)
def sAsgG (b : BD) (fa : ED) : SD := fun D env => frz fa env (fun r => match r with | .val d => b d env D.nx | _ => False) (D.ex env)
def sExpr (fa : ED) : SD := fun D env => fa env (fun _ => D.nx env) (D.ex env)
theorem ds_expr {e : Expr} {pos : Pos} (ha : DE X g W ca e fa) (hs : swapsWith e none pos.line X.env = pure false := by rfl) : DS X g W ca (.Expr e pos) (sExpr fa) := by
  refine ⟨PSimp (ps_expr ha.pe hs) fun D σ H ⟨T, F, env, hT, ok, h⟩ => ?_, fun A B env l h => ha.mono env _ _ _ _ (fun r q => l.nx _ q) (fun x q => l.ex _ _ q) h⟩
  exact run_e ok hT ha.mono h (fun r q F1 H1 v w o rr => q F1 σ H1 w.ff o) (exE.of ok (Nat.le_refl _) rfl)
def hand : RV → RV
  | .bor xs => .own xs
  | r => r
def sRet (fa : ED) : SD := fun D env => fa env (fun r => D.rt (hand r)) (D.ex env)
theorem ds_ret {e : Expr} {pos : Pos} (ha : DE X g W ca e fa) : DS X g W ca (.Return (some e) pos) (sRet fa) := by
  refine ⟨PSimp (ps_ret ha.pe) fun D σ H ⟨T, F, env, hT, ok, h⟩ => ?_, fun A B env l h => ha.mono env _ _ _ _ (fun r q => l.rt _ q) (fun x q => l.ex _ _ q) h⟩
  refine run_e ok hT ha.mono h (fun r q F1 H1 v w o rr => ?_) (exE.of ok (Nat.le_refl _) rfl)
  cases r with
  | val d => exact q F1 H1 v o.grow o.sto rr
  | sto => exact q F1 H1 v o.grow o.sto rr
  | own ys =>
    obtain ⟨a, rfl, o1, no⟩ := rr
    exact q F1 H1 _ o.grow o.sto ⟨a, rfl, o1.ns, ((ok.newOf a o1.new).resolve_right o1.ns), o1.nf, o1.at'⟩
  | bor ys =>
    obtain ⟨i, e1, e2⟩ := rr
    obtain ⟨a, e3, o1⟩ := o.own i ys e1
    rw [e2] at e3
    cases e3
    exact q F1 H1 _ o.grow o.sto ⟨a, rfl, o1.ns, o1.new, o1.nf, o1.at'⟩
end
end DL
namespace DL
open PySem PySem.Spec L2
section
variable {X : Cx} {g : G} {W : WX} {T T' ca cb cc : Nat} {F H F1 H1 Hs Fs : Hp} {env : En} {σ : St} {x y r : RV} {v w : V} {xs ys : List D} {fa : ED} {ta : TD} {sa sb : SD}
def sIf (ta : TD) (sa sb : SD) : SD := fun D env => ta env (fun b => if b = true then sa D env else sb D env) (D.ex env)
theorem ds_if {c : Expr} {a b : List Stmt} {pos : Pos} (hc : DT X g W cc c ta) (ha : DSs X g W ca a sa) (hb : DSs X g W cb b sb) : DS X g W (cc + (ca + cb)) (.If c a b pos) (sIf ta sa sb) := by
  refine ⟨PSimp (ps_if hc.pt ha.ps hb.ps) fun D σ H ⟨T, F, env, hT, ok, h⟩ => ?_, fun A B env l h => hc.mono env _ _ _ _ (fun b q => ?_) (fun x q => l.ex _ _ q) h⟩
  · refine run_t ok (by omega) hc.mono h (fun b q F1 H1 w o => ?_) (exE.of ok (by omega) rfl)
    cases b with
    | true => exact ⟨T + cc, F1, env, by omega, o, ha.mono _ _ _ (enS.up w.ff (by omega)) q⟩
    | false => exact ⟨T + cc, F1, env, by omega, o, hb.mono _ _ _ (enS.up w.ff (by omega)) q⟩
  · cases b with
    | true => exact ha.mono _ _ _ l q
    | false => exact hb.mono _ _ _ l q
abbrev NN : Nat := 1000
def forW (b : BD) (fb : SD) (A : DEn) : List D → En → Prop
  | [], env => A.nx env
  | d :: ds, env => b d env (fun env1 => fb { A with nx := forW b fb A ds, ct := forW b fb A ds, bk := A.nx } env1)
theorem forW_mono {b : BD} {fb : SD} {A B : DEn} (hb : ∀ d env P P', (∀ e, P e → P' e) → b d env P → b d env P') (hf : MonoS fb) (l : A.le B) : ∀ ds env, forW b fb A ds env → forW b fb B ds env
  | [], env, h => l.nx _ h
  | d :: ds, env, h => hb _ _ _ _ (fun e q => hf { A with nx := forW b fb A ds, ct := forW b fb A ds, bk := A.nx } { B with nx := forW b fb B ds, ct := forW b fb B ds, bk := B.nx } e ⟨fun e q => forW_mono hb hf l ds e q, l.rt, l.nx, fun e q => forW_mono hb hf l ds e q, l.ex⟩ q) h
def sFor (fi : ID) (b : BD) (fb : SD) : SD := fun D env => fi env (fun items => items.length ≤ NN ∧ forW b fb D items env) (D.ex env)
theorem ds_for (cy : Cy X g W) {tg iter : Expr} {body : List Stmt} {pos : Pos} {fi : ID} {b : BD} {sl : List Nat} {t : TG} {fb : SD} (hi : DI X g W ca tg iter fi) (hg : DG X g tg b sl t) (hb : DSs X g W cb body fb) (hs : ∀ (x : Value), foldedSetIterable iter X.env x = pure x := by intro _; rfl) (hc : X.calm = true := by rfl) :
    DS X g W (ca + NN * cb) (.For tg iter body [] pos) (sFor fi b fb) := by
  refine ⟨PSimp (ps_for cy.po hc hi.pi hg.pg hb.ps hs) fun D σ H ⟨T, F, env, hT, ok, h⟩ => ?_, fun A B env l h => hi.mono env _ _ _ _ (fun is q => ⟨q.1, forW_mono hg.mono hb.mono l _ _ q.2⟩) (fun x q => l.ex _ _ q) h⟩
  refine ⟨T, F, env, by omega, ok, hi.mono env _ _ _ _ (fun items ⟨hl, q⟩ F1 H1 J w o wk => ?_) (exE.of ok (by omega) rfl) h⟩
  refine ⟨fun i m σ' H' => m = items.length - i ∧ i ≤ items.length ∧ ∃ F' env', Ex F1 F' ∧ Ok g (T + ca + i * cb) F' env' σ' H' ∧ forW b fb (enS g W (T + (ca + NN * cb)) F D) (items.drop i) env', ⟨items.length, rfl, Nat.zero_le _, F1, env, Evl.Ex.refl F1, o.up (by omega), by simpa using q⟩, ?_⟩
  rintro i m σ' H' ⟨rfl, hi', F', env', e1, o', q⟩
  by_cases hlt : i < items.length
  · refine .inr ⟨wk.go e1 o'.fh hlt, fun σ2 H2 => ∃ m', m' < items.length - i ∧ m' = items.length - (i + 1) ∧ (i + 1) ≤ items.length ∧ ∃ F' env', Ex F1 F' ∧ Ok g (T + ca + (i + 1) * cb) F' env' σ2 H2 ∧ forW b fb (enS g W (T + (ca + NN * cb)) F D) (items.drop (i + 1)) env', ?_, ?_⟩
    · rintro σ2 H2 ⟨m', hm, rfl, r1, r2⟩
      exact ⟨_, hm, rfl, r1, r2⟩
    · intro xv H2 hy
      obtain ⟨d, F2, hd, w2, o2, rd⟩ := wk.yld hlt e1 o' hy
      have ed : items.drop i = d :: items.drop (i + 1) := by
        rw [List.drop_eq_getElem_cons hlt]
        rw [List.getElem?_eq_getElem hlt] at hd
        cases hd
        rfl
      rw [ed] at q
      refine hg.snd o2 rd q fun env3 σ3 o3 _ q3 => ?_
      have hm : (i + 1) * cb ≤ NN * cb := Nat.mul_le_mul_right cb (by omega)
      have hm2 : (i + 1) * cb = i * cb + cb := Nat.succ_mul i cb
      refine ⟨T + ca + i * cb, F2, env3, by omega, o3, hb.mono _ _ _ ?_ q3⟩
      have eF : Ex F F2 := w.ff.trans (e1.trans w2.ff)
      have nxt : ∀ e, forW b fb (enS g W (T + (ca + NN * cb)) F D) (items.drop (i + 1)) e → okN g (T + ca + i * cb + cb) F2 (fun σ2 H2 => ∃ m', m' < items.length - i ∧ m' = items.length - (i + 1) ∧ (i + 1) ≤ items.length ∧ ∃ F' env', Ex F1 F' ∧ Ok g (T + ca + (i + 1) * cb) F' env' σ2 H2 ∧ forW b fb (enS g W (T + (ca + NN * cb)) F D) (items.drop (i + 1)) env') e := fun e q4 F4 σ4 H4 e4 o4 =>
        ⟨items.length - (i + 1), by omega, rfl, hlt, F4, e, e1.trans (w2.ff.trans e4), o4.up (by omega), q4⟩
      exact ⟨nxt, fun r q4 => okR.up (by omega) q4, fun e q4 => okN.up eF (by omega) q4, nxt, fun e x q4 => exS.up eF (by omega) q4⟩
  · have hle : items.length ≤ i := by omega
    refine .inl ⟨wk.stop e1 o'.fh hle, ?_⟩
    rw [List.drop_eq_nil_of_le hle] at q
    have ei : i = items.length := by omega
    have hm : i * cb ≤ NN * cb := Nat.mul_le_mul_right cb (by omega)
    exact q F' σ' H' (w.ff.trans e1) (o'.up (by omega))
theorem Ok.wipe (ok : Ok g T F env σ H) : ∀ vs : List Nat, Ok g T F (vs.foldr (fun v e => e.set v none) env) (wipe σ vs) H
  | [] => ok
  | j :: vs => by
    have o := Ok.wipe ok vs
    have sn : ∀ {α : Type} {l : List (Option α)} {i : Nat} {t : α}, (l.set j none)[i]? = some (some t) → j ≠ i ∧ l[i]? = some (some t) := fun {α l i t} h => by
      by_cases e : j = i
      · subst e
        rw [List.getElem?_set] at h
        simp only [if_true] at h
        split at h <;> simp at h
      · rw [List.getElem?_set_ne e] at h
        exact ⟨e, h⟩
    show Ok g T F ((vs.foldr (fun v e => e.set v none) env).set j none) ((L2.wipe σ vs).set j none) H
    refine ⟨o.grow, o.sto, by rw [List.length_set, List.length_set]; exact o.len, fun i d e => ?_, fun i e => ?_, fun i ys e => ?_, fun i k ys zs hne e e' => ?_⟩
    · obtain ⟨n, e⟩ := sn e
      rw [List.getElem?_set_ne n]; exact o.val i d e
    · obtain ⟨n, e⟩ := sn e
      rw [List.getElem?_set_ne n]; exact o.stor i e
    · obtain ⟨n, e⟩ := sn e
      rw [List.getElem?_set_ne n]; exact o.own i ys e
    · obtain ⟨n, e⟩ := sn e
      obtain ⟨n', e'⟩ := sn e'
      rw [List.getElem?_set_ne n, List.getElem?_set_ne n']; exact o.dis i k ys zs hne e e'
abbrev wipeE (env : En) (vs : List Nat) : En := vs.foldr (fun v e => e.set v none) env
theorem NotOwn.wipe {a : Addr} (h : NotOwn env σ a) (hl : σ.length = env.length) : ∀ vs : List Nat, NotOwn (wipeE env vs) (wipe σ vs) a
  | [] => h
  | j :: vs => fun i ys e => by
    have h2 := NotOwn.wipe h hl vs
    have e' : ((wipeE env vs).set j none)[i]? = some (some (.own ys)) := e
    show ((L2.wipe σ vs).set j none)[i]? ≠ _
    by_cases q : j = i
    · subst q
      rw [List.getElem?_set] at e'
      simp only [if_true] at e'
      split at e' <;> simp at e'
    · rw [List.getElem?_set_ne q] at e' ⊢
      exact h2 i ys e'
theorem Ok.updOwn {p : Addr} {o : HO} (ok : Ok g T F env σ H) (hF : F p = none) (hs : p ≠ g.st) (h0 : g.H0 p = none) (no : NotOwn env σ p) : Ok g T F env σ (upd H p o) :=
  ⟨⟨ok.grow.ff, fun b x e => by rw [upd_ne (ne_of_none e hF)]; exact ok.fh b x e, fun b x n e => by rw [upd_ne (ne_of_none e h0)]; exact ok.grow.hh b x n e, ok.grow.nf, ok.grow.sf⟩, ok.sto.to (Evl.Ex.refl F) (upd_ne hs.symm) ok.sto.free, ok.len, ok.val, ok.stor, fun i ys e => by
    obtain ⟨a, e1, e2⟩ := ok.own i ys e
    obtain ⟨us, e3, e4⟩ := e2.at'
    have ne : a ≠ p := fun z => no i ys e (by rw [← z]; exact e1)
    exact ⟨a, e1, e2.ns, e2.new, e2.nf, us, by rw [upd_ne ne]; exact e3, e4⟩, ok.dis⟩
def lcW (b : BD) (ft : TD) (fe : ED) (env0 : En) (Q : List D → Prop) : List D → List D → Prop
  | [], acc => Q acc
  | d :: ds, acc => b d env0 (fun env1 => ft env1 (fun t => if t = true then frz fe env1 (fun r => ∃ e, r = .val e ∧ lcW b ft fe env0 Q ds (acc ++ [e])) (fun _ => False) else lcW b ft fe env0 Q ds acc) (fun _ => False))
theorem lcW_mono {b : BD} {ft : TD} {fe : ED} {env0 : En} {Q Q' : List D → Prop} (hb : ∀ d env P P', (∀ e, P e → P' e) → b d env P → b d env P') (ht : MonoE ft) (he : MonoE (frz fe)) (hq : ∀ l, Q l → Q' l) : ∀ ds acc, lcW b ft fe env0 Q ds acc → lcW b ft fe env0 Q' ds acc
  | [], acc, h => hq _ h
  | d :: ds, acc, h => hb _ _ _ _ (fun e q => ht e _ _ _ _ (fun t q => by
    cases t with
    | true =>
      have q' : frz fe e (fun r => ∃ z, r = .val z ∧ lcW b ft fe env0 Q ds (acc ++ [z])) (fun _ => False) := q
      show frz fe e (fun r => ∃ z, r = .val z ∧ lcW b ft fe env0 Q' ds (acc ++ [z])) (fun _ => False)
      refine he e _ _ _ _ (fun r h => ?_) (fun _ h => h) q'
      obtain ⟨z, e1, q⟩ := h
      exact ⟨z, e1, lcW_mono hb ht he hq ds _ q⟩
    | false => exact lcW_mono hb ht he hq ds _ q) (fun _ h => h) q) h
def eLc (fi : ID) (b : BD) (ft : TD) (fe : ED) (vs : List Nat) : ED := fun env Q E => fi env (fun items => items.length ≤ NN ∧ lcW b ft fe (wipeE env vs) (fun acc => Q (.own acc)) items []) E
structure DTs (X : Cx) (g : G) (W : WX) (c : Nat) (ifs : List Expr) (f : TD) : Prop where
  pts : PTs X ifs (tDT g W c f)
  mono : MonoE f
theorem PTsimp {X : Cx} {e : List Expr} {t t' : TT} (h : PTs X e t) (i : ∀ σ H Q, t' σ H Q → t σ H Q) : PTs X e t' := ⟨fun pins s σ H Q I q => h.run pins s σ H Q I (i σ H Q q)⟩
def tYesD : TD := fun _ Q _ => Q true
theorem dts_nil : DTs X g W 0 [] tYesD := ⟨PTsimp pts_nil fun σ H Q ⟨T, F, env, hT, ok, h⟩ => h F H ok.refl ok, fun env Q Q' E E' hq he q => hq _ q⟩
theorem dts_one {c : Expr} (h : DT X g W ca c ta) : DTs X g W ca [c] ta := ⟨PTsimp (pts_one h.pt) fun σ H Q q => q, h.mono⟩
abbrev W0 : WX := fun _ _ _ _ => False
theorem Cy.blk (cy : Cy X g W) (s : Shared) (H : Hp) (scope : Scope) (cenv : PySem.Env) (fp : List Addr) : Cy (X.blk s H scope cenv fp) g W0 :=
  ⟨cy.k, fun u s' ⟨a, B, sI, pins, σ, H, cls, d, e, I, nb, up, sky, na, os, ag, w⟩ => w.elim, cy.un, PassesOwn.never⟩
theorem wipe_wipe (σ : St) (vs : List Nat) : wipe (wipe σ vs) vs = wipe σ vs := by
  apply List.ext_getElem?
  intro k
  rw [wipe_get, wipe_get, wipe_length]
  by_cases c : k ∈ vs ∧ k < σ.length
  · rw [if_pos c, if_pos c]
  · rw [if_neg c, if_neg c]
theorem lc_fit (cy : Cy X g W) {elt tg iter : Expr} {ifs : List Expr} {scope : Scope} {own : List (Str × Nat)} {pos : Pos} {fi : ID} {b : BD} {sl : List Nat} {t : TG} {ft : TD} {fe : ED} (hN : X.N.Nodup) (hi : DI X g W ca tg iter fi) (ok : BlkOk X.N X.env.scope scope own)
    (hg : ∀ (s : Shared) (H : Hp) (C : Addr) (cl : List (Str × Addr)) (fp : List Addr), Cy (X.blk s H scope (compEnvC scope cl C X.env) fp) g W0 → DG (X.blk s H scope (compEnvC scope cl C X.env) fp) g tg b sl t)
    (ht : ∀ (s : Shared) (H : Hp) (C : Addr) (cl : List (Str × Addr)) (fp : List Addr), Cy (X.blk s H scope (compEnvC scope cl C X.env) fp) g W0 → DTs (X.blk s H scope (compEnvC scope cl C X.env) fp) g W0 cb ifs ft)
    (he : ∀ (s : Shared) (H : Hp) (C : Addr) (cl : List (Str × Addr)) (fp : List Addr), Cy (X.blk s H scope (compEnvC scope cl C X.env) fp) g W0 → DE (X.blk s H scope (compEnvC scope cl C X.env) fp) g W0 cc elt fe)
    (hsl : ∀ i ∈ sl, i ∈ own.map (·.2) := by decide) :
    (∀ σ H Q, tD g W (ca + NN * (cb + cc)) (eLc fi b ft fe (own.map (·.2))) σ H Q → tLc (tDI g W ca fi) t (tDT g W0 cb ft) (tD g W0 cc (frz fe)) (own.map (·.2)) σ H Q) ∧ MonoE (eLc fi b ft fe (own.map (·.2))) := by
  have hg0 := hg X.s_0 X.H_0 0 [] [] (cy.blk _ _ _ _ _)
  have ht0 := ht X.s_0 X.H_0 0 [] [] (cy.blk _ _ _ _ _)
  have he0 := (he X.s_0 X.H_0 0 [] [] (cy.blk _ _ _ _ _)).frz
  refine ⟨fun σ H Q ⟨T, F, env, hT, o0, h⟩ => ?_,
    fun env Q Q' E E' hq hx h => hi.mono env _ _ _ _ (fun is q => ⟨q.1, lcW_mono hg0.mono ht0.mono he0.mono (fun l q => hq _ q) _ _ q.2⟩) hx h⟩
  refine ⟨T, F, env, by omega, o0, hi.mono env _ _ _ _ (fun items ⟨hl, q⟩ F1 H1 J w o wk p hp => ?_) (exE.shift o0.refl (by omega)) h⟩
  generalize hvs : own.map (·.2) = vs at q hsl ⊢
  have np : p ≠ g.st := fun z => o.sto.some (by rw [← z]; exact hp)
  have h0p : g.H0 p = none := (o.newOf p hp).resolve_right np
  have hHp : H p = none := by
    cases e : H p with
    | none => rfl
    | some x =>
      have z := w.hh p x np e
      rw [hp] at z
      cases z
  have now : NotOwn (wipeE env vs) (wipe σ vs) p := (o.notOwn hp).wipe o.len vs
  refine ⟨fun i m H' => m = items.length - i ∧ i ≤ items.length ∧ ∃ F' acc us, Grow g.st F1 H1 F' H' ∧ StoreAt g.K g.st (T + ca + i * (cb + cc)) F' H' ∧ H' p = some (.lst us) ∧ F' p = none ∧ RepL g.K F' acc us ∧ acc.length ≤ i ∧ lcW b ft fe (wipeE env vs) (fun acc => okE g T (ca + NN * (cb + cc)) F env σ H Q (.own acc)) (items.drop i) acc,
    ⟨items.length, rfl, Nat.zero_le _, F1, [], [], Grow.new o.fh o.sto.free hp, (o.sto.new hp).up (by omega), upd_same, Evl.fresh_back o.fh hp, repL_nil.mpr rfl, Nat.le_refl _, by simpa using q⟩, ?_⟩
  rintro i m H' ⟨rfl, hi', F', acc, us, g1, s1, hp1, hf1, r1, l1, q⟩
  have ok' : Ok g (T + ca + i * (cb + cc)) F' env σ H' := o.grown g1 s1
  by_cases hlt : i < items.length
  · have hm : (i + 1) * (cb + cc) ≤ NN * (cb + cc) := Nat.mul_le_mul_right _ (by omega)
    have hm2 : (i + 1) * (cb + cc) = i * (cb + cc) + (cb + cc) := Nat.succ_mul i _
    have okw := ok'.wipe vs
    refine .inr ⟨wk.go g1.ff ok'.fh hlt, fun H2 => ∃ m', m' < items.length - i ∧ m' = items.length - (i + 1) ∧ (i + 1) ≤ items.length ∧ ∃ F' acc us, Grow g.st F1 H1 F' H2 ∧ StoreAt g.K g.st (T + ca + (i + 1) * (cb + cc)) F' H2 ∧ H2 p = some (.lst us) ∧ F' p = none ∧ RepL g.K F' acc us ∧ acc.length ≤ i + 1 ∧ lcW b ft fe (wipeE env vs) (fun acc => okE g T (ca + NN * (cb + cc)) F env σ H Q (.own acc)) (items.drop (i + 1)) acc, ?_, ?_⟩
    · rintro H2 ⟨m', hm', rfl, r2, r3⟩
      exact ⟨_, hm', rfl, r2, r3⟩
    · intro xv H2 hy
      obtain ⟨d, F2, hd, w2, o2, rd⟩ := wk.yld hlt g1.ff okw hy
      have ed : items.drop i = d :: items.drop (i + 1) := by
        rw [List.drop_eq_getElem_cons hlt]
        rw [List.getElem?_eq_getElem hlt] at hd
        cases hd
        rfl
      rw [ed] at q
      refine hg0.snd o2 rd q fun env3 σ3 o3 kp q3 => ⟨(kp vs hsl).trans (wipe_wipe σ vs), ?_⟩
      refine ⟨T + ca + i * (cb + cc), F2, env3, by omega, o3, ht0.mono env3 _ _ _ _ (fun tb q4 F3 H3 w3 o4 => ?_) (fun x f => f.elim) q3⟩
      cases tb with
      | true =>
        have q4' : frz fe env3 (fun r => ∃ e, r = .val e ∧ lcW b ft fe (wipeE env vs) (fun acc => okE g T (ca + NN * (cb + cc)) F env σ H Q (.own acc)) (items.drop (i + 1)) (acc ++ [e])) (fun _ => False) := q4
        refine ⟨T + ca + i * (cb + cc) + cb, F3, env3, by omega, o4, he0.mono env3 _ _ _ _ (fun r hz F4 H4 v4 w4 o5 r5 => ?_) (fun x f => f.elim) q4'⟩
        obtain ⟨z, rfl, q5⟩ := hz
        have wt := w2.trans (w3.trans w4)
        have hp4 := wt.hh p _ np hp1
        have hf4 := wt.nf p hf1 (by rw [hp1]; exact fun z => nomatch z)
        refine ⟨us, hp4, lim_lt (by have := r1.length; have h5 : items.length ≤ 1000 := hl; show us.length < 100000; omega), items.length - (i + 1), by omega, rfl, hlt, F4, acc ++ [z], us ++ [v4], ?_, ?_, upd_same, hf4, (r1.mono wt.ff).append (repL_cons.mpr ⟨v4, [], rfl, r5, repL_nil.mpr rfl⟩), by simp; omega, q5⟩
        · have gt := g1.trans wt
          exact ⟨gt.ff, fun b x e => by rw [upd_ne (ne_of_none e hf4)]; exact gt.fh b x e, fun b x n e => by rw [upd_ne (ne_of_none e hp)]; exact gt.hh b x n e, gt.nf, gt.sf⟩
        · exact (o5.sto.to (Evl.Ex.refl F4) (upd_ne np.symm) o5.sto.free).up (by omega)
      | false =>
        have q4' : lcW b ft fe (wipeE env vs) (fun acc => okE g T (ca + NN * (cb + cc)) F env σ H Q (.own acc)) (items.drop (i + 1)) acc := q4
        have wt := w2.trans w3
        have hp4 := wt.hh p _ np hp1
        have hf4 := wt.nf p hf1 (by rw [hp1]; exact fun z => nomatch z)
        exact ⟨items.length - (i + 1), by omega, rfl, hlt, F3, acc, us, g1.trans wt, o4.sto.up (by omega), hp4, hf4, r1.mono wt.ff, by omega, q4'⟩
  · have hle : items.length ≤ i := by omega
    refine .inl ⟨wk.stop g1.ff ok'.fh hle, ?_⟩
    rw [List.drop_eq_nil_of_le hle] at q
    have hm : i * (cb + cc) ≤ NN * (cb + cc) := Nat.mul_le_mul_right _ (by omega)
    have ok2 := ok'.up (T' := T + (ca + NN * (cb + cc))) (by omega)
    exact q F' H' (.ref p) (w.trans g1) ok2 ⟨p, rfl, ⟨np, hHp, hf1, us, hp1, r1⟩, o.notOwn hp⟩
theorem de_lc (cy : Cy X g W) {elt tg iter : Expr} {ifs : List Expr} {scope : Scope} {own : List (Str × Nat)} {pos : Pos} {fi : ID} {b : BD} {sl : List Nat} {t : TG} {ft : TD} {fe : ED} (hN : X.N.Nodup) (hi : DI X g W ca tg iter fi) (ok : BlkOk X.N X.env.scope scope own)
    (hg : ∀ (s : Shared) (H : Hp) (C : Addr) (cl : List (Str × Addr)) (fp : List Addr), Cy (X.blk s H scope (compEnvC scope cl C X.env) fp) g W0 → DG (X.blk s H scope (compEnvC scope cl C X.env) fp) g tg b sl t)
    (ht : ∀ (s : Shared) (H : Hp) (C : Addr) (cl : List (Str × Addr)) (fp : List Addr), Cy (X.blk s H scope (compEnvC scope cl C X.env) fp) g W0 → DTs (X.blk s H scope (compEnvC scope cl C X.env) fp) g W0 cb ifs ft)
    (he : ∀ (s : Shared) (H : Hp) (C : Addr) (cl : List (Str × Addr)) (fp : List Addr), Cy (X.blk s H scope (compEnvC scope cl C X.env) fp) g W0 → DE (X.blk s H scope (compEnvC scope cl C X.env) fp) g W0 cc elt fe)
    (hsl : ∀ i ∈ sl, i ∈ own.map (·.2) := by decide) (hfs : ∀ (x : Value), foldedSetIterable iter X.env x = pure x := by intro _; rfl) (hc : X.calm = true := by rfl) :
    DE X g W (ca + NN * (cb + cc)) (.ListComp elt [⟨tg, iter, ifs, 0⟩] scope pos) (eLc fi b ft fe (own.map (·.2))) := by
  have f := lc_fit cy hN hi ok hg ht he hsl (elt := elt) (pos := pos)
  exact ⟨PEimp (pe_lc hc hN hi.pi ok (fun s H C cl fp => (hg s H C cl fp (cy.blk _ _ _ _ _)).pg) (fun s H C cl fp => (ht s H C cl fp (cy.blk _ _ _ _ _)).pts) (fun s H C cl fp => (he s H C cl fp (cy.blk _ _ _ _ _)).frz.pe) hfs) f.1, f.2⟩
theorem ds_asgLc (i : Nat) {x : Str} {spos pos' : Pos} (cy : Cy X g W) {elt tg iter : Expr} {ifs : List Expr} {scope : Scope} {own : List (Str × Nat)} {pos : Pos} {fi : ID} {b : BD} {sl : List Nat} {t : TG} {ft : TD} {fe : ED} (hN : X.N.Nodup) (hi : DI X g W ca tg iter fi) (ok : BlkOk X.N X.env.scope scope own)
    (hg : ∀ (s : Shared) (H : Hp) (C : Addr) (cl : List (Str × Addr)) (fp : List Addr), Cy (X.blk s H scope (compEnvC scope cl C X.env) fp) g W0 → DG (X.blk s H scope (compEnvC scope cl C X.env) fp) g tg b sl t)
    (ht : ∀ (s : Shared) (H : Hp) (C : Addr) (cl : List (Str × Addr)) (fp : List Addr), Cy (X.blk s H scope (compEnvC scope cl C X.env) fp) g W0 → DTs (X.blk s H scope (compEnvC scope cl C X.env) fp) g W0 cb ifs ft)
    (he : ∀ (s : Shared) (H : Hp) (C : Addr) (cl : List (Str × Addr)) (fp : List Addr), Cy (X.blk s H scope (compEnvC scope cl C X.env) fp) g W0 → DE (X.blk s H scope (compEnvC scope cl C X.env) fp) g W0 cc elt fe)
    (hsl : ∀ i ∈ sl, i ∈ own.map (·.2) := by decide) (hfs : ∀ (x : Value), foldedSetIterable iter X.env x = pure x := by intro _; rfl)  (hx : X.N[i]? = some x := by rfl) (hxl : X.env.scope.names.lookup x = some .local := by rfl) (hk : X.env.scope.kind = .function := by rfl) (hl : (pos'.line == pos.line) = true := by rfl) (ha : (scope.names.any fun (n, k) => n == x && (k == .local || k == .cell)) = false := by rfl) (hc : X.calm = true := by rfl) :
    DS X g W (ca + NN * (cb + cc)) (.Assign [.Name x pos'] (.ListComp elt [⟨tg, iter, ifs, 0⟩] scope pos) spos) (sAsg i (eLc fi b ft fe (own.map (·.2)))) := by
  have f := lc_fit cy hN hi ok hg ht he hsl (elt := elt) (pos := pos)
  refine ⟨PSimp (ps_setLc hc hN hx hxl (sw_true hk hxl hl ha) hi.pi ok (fun s H C cl fp => (hg s H C cl fp (cy.blk _ _ _ _ _)).pg) (fun s H C cl fp => (ht s H C cl fp (cy.blk _ _ _ _ _)).pts) (fun s H C cl fp => (he s H C cl fp (cy.blk _ _ _ _ _)).frz.pe) hfs) fun D σ H ⟨T, F, env, hT, ok, h⟩ => ?_, mono_asg f.2⟩
  refine f.1 σ H _ ?_
  exact run_e ok hT f.2 h (fun r ⟨s, h1, q⟩ F1 H1 v w o rr => q F1 _ H1 w.ff (o.setR i h1 rr ok.newOf)) (exE.of ok (Nat.le_refl _) rfl)
end
end DL
namespace DL
open PySem PySem.Spec L2
section
variable {X : Cx} {g : G} {W : WX} {T T' ca cb cc : Nat} {F H F1 H1 Hs Fs : Hp} {env : En} {σ : St} {x y r : RV} {v w : V} {xs ys : List D} {fa fb : ED} {ta : TD} {sa sb : SD}
theorem Ok.mut {i : Nat} {a : Addr} {ds' : List D} {vs' : List V} (ok : Ok g T F env σ H) (e : env[i]? = some (some (.own xs))) (es : σ[i]? = some (some (.ref a))) (r : RepL g.K F ds' vs') : Ok g T F (env.set i (some (.own ds'))) σ (upd H a (.lst vs')) := by
  obtain ⟨b, e1, o⟩ := ok.own i xs e
  rw [es] at e1
  cases e1
  have hl := ok.len
  refine ⟨⟨ok.grow.ff, fun b x q => by rw [upd_ne (ne_of_none q o.nf)]; exact ok.fh b x q, fun b x n q => by rw [upd_ne (ne_of_none q o.new)]; exact ok.grow.hh b x n q, ok.grow.nf, ok.grow.sf⟩, ok.sto.to (Evl.Ex.refl F) (upd_ne o.ns.symm) ok.sto.free, by rw [List.length_set]; exact ok.len, fun k d q => ?_, fun k q => ?_, fun k zs q => ?_, fun k l zs us hne q q' => ?_⟩
  · rcases set_none q with ⟨_, _, z⟩ | ⟨_, q⟩
    · cases z
    · exact ok.val k d q
  · rcases set_none q with ⟨_, _, z⟩ | ⟨_, q⟩
    · cases z
    · exact ok.stor k q
  · rcases set_none q with ⟨rfl, hlt, z⟩ | ⟨n, q⟩
    · cases z
      exact ⟨a, es, o.ns, o.new, o.nf, vs', upd_same, r⟩
    · obtain ⟨b, e1, o1⟩ := ok.own k zs q
      have ne : b ≠ a := fun z => ok.dis i k xs zs n e q (by rw [es, e1, z])
      obtain ⟨us, e2, e3⟩ := o1.at'
      exact ⟨b, e1, o1.ns, o1.new, o1.nf, us, by rw [upd_ne ne]; exact e2, e3⟩
  · rcases set_none q with ⟨rfl, hlt, z⟩ | ⟨n, q⟩
    · rcases set_none q' with ⟨z', _, _⟩ | ⟨n', q'⟩
      · exact absurd z' hne
      · exact ok.dis i l xs us hne e q'
    · rcases set_none q' with ⟨rfl, hlt, z⟩ | ⟨n', q'⟩
      · exact ok.dis k i zs xs hne q e
      · exact ok.dis k l zs us hne q q'
def sSetIx (i : Nat) (fk fe : ED) : SD := fun A env => ∃ xs, env[i]? = some (some (.own xs)) ∧ frz fe env (fun r => frz fk env (fun k => ∃ d j n, r = .val d ∧ k = .val (.int n) ∧ ixN xs.length n = some j ∧ A.nx (env.set i (some (.own (xs.set j d))))) (A.ex env)) (A.ex env)
theorem ds_setIx (i : Nat) {n : Str} {ix e : Expr} {p p2 pos : Pos} {fk fe : ED} (hk : DE X g W ca ix fk) (he : DE X g W cb e fe) (ho : PE X (.Name n p) (tVar i))
    (hst : PG X (.Subscript (.Name n p) ix p2) (gSub (tVar i) (tD g W ca (frz fk)) rSetL)) (hs : swapsWithSole [.Subscript (.Name n p) ix p2] e pos.line X.env = pure false := by rfl) (hw : swappedStores [.Subscript (.Name n p) ix p2] e X.env = pure none := by rfl) (hh : (assignEach [.Subscript (.Name n p) ix p2] X.env).map (·.2) = [assign (.Subscript (.Name n p) ix p2) X.env] := by rfl) :
    DS X g W (cb + ca) (.Assign [.Subscript (.Name n p) ix p2] e pos) (sSetIx i fk fe) := by
  refine ⟨PSimp (ps_asg he.frz.pe hst hs hw hh) fun A σ H ⟨T, F, env, hT, ok, xs, e1, h⟩ => ?_, fun A B env l ⟨xs, e1, h⟩ => ⟨xs, e1, he.frz.mono env _ _ _ _ (fun r q => hk.frz.mono env _ _ _ _ (fun k q => ?_) (fun x q => l.ex _ _ q) q) (fun x q => l.ex _ _ q) h⟩⟩
  · refine run_e ok (by omega) he.frz.mono h (fun r q F1 H1 v w o rr => ?_) (exE.of ok (by omega) rfl)
    obtain ⟨a, e2, oa⟩ := ok.own i xs e1
    refine ⟨_, e2, ?_⟩
    refine run_e o (by omega) hk.frz.mono q (fun k q F2 H2 v2 w2 o2 rk => ?_) (fun x q => exE.of (cc := ca) o (Nat.le_refl _) rfl x (exS.up w.ff (by omega) q))
    obtain ⟨d, j, n, rfl, rfl, q3, q4⟩ := q
    obtain ⟨b, e3, oa2⟩ := o2.own i xs e1
    rw [e2] at e3
    cases e3
    obtain ⟨vs, e4, e5⟩ := oa2.at'
    simp only [RepR, Rep] at rk
    refine ⟨a, vs, n, j, rfl, rk, e4, by rw [← e5.length]; exact q3, ?_⟩
    exact q4 F2 σ _ (w.trans w2).ff ((o2.mut e1 e2 (e5.set j (Rep.mono w2.ff rr))).up (by omega))
  · obtain ⟨d, j, n, q1, q2, q3, q4⟩ := q
    exact ⟨d, j, n, q1, q2, q3, l.nx _ q4⟩
theorem pg_own (i : Nat) {n : Str} {ix : Expr} {p p2 : Pos} {fk : ED} (hk : DE X g W ca ix fk) (ho : PE X (.Name n p) (tVar i)) (ha : ∀ v, assign (.Subscript (.Name n p) ix p2) X.env v = (do
      let ov ← holding [v] (eval (.Name n p) X.env)
      let iv ← holding [v, ov] (eval ix X.env)
      standAt p2
      holding [v, ov, iv] (setItem ov iv v)
      release [v, ov, iv] []) := by intro _; rfl) : PG X (.Subscript (.Name n p) ix p2) (gSub (tVar i) (tD g W ca (frz fk)) rSetL) := pg_sub ho hk.frz.pe set_list ha
abbrev QM := List RV → List D → (List D → Prop) → Prop
def MutD (g : G) (r : V → List V → Hp → VK → Prop) (q : QM) : Prop := ∀ {T : Nat} {F : Hp} {env : En} {σ : St} {H Hs : Hp} {rs : List RV} {ws : List V} {a : Addr} {xs : List D} {vs : List V} {P : List D → Prop} {Q : VK},
  Ok g T F env σ H → H a = some (.lst vs) → RepL g.K F xs vs → RepRs g Hs F H env σ rs ws → q rs xs P → (∀ ys us v, P ys → RepL g.K F ys us → Q v (upd H a (.lst us))) → r (.ref a) ws H Q
def MonoM (q : QM) : Prop := ∀ rs xs P P', (∀ l, P l → P' l) → q rs xs P → q rs xs P'
def sMut (i : Nat) (q : QM) (fa : AD) : SD := fun A env => ∃ xs, env[i]? = some (some (.own xs)) ∧ fa env (fun rs => q rs xs (fun ys => A.nx (env.set i (some (.own ys))))) (A.ex env)
theorem ds_mut (cy : Cy X g W) (i : Nat) {n name : Str} {e : Expr} {es : List Expr} {id : String} {p apos cpos pos : Pos} {r : V → List V → Hp → VK → Prop} {q : QM} {fa : AD} (pa : PySem.PlainAttrs "list") (slot : Slot "list" name id) (hty : typeOf (.builtin id) = pure (.type "method_descriptor")) (hm : MtR X id r) (hq : MutD g r q) (mq : MonoM q)
    (ho : PE X (.Name n p) (tVar i)) (ha : DA X g W ca (e :: es) fa)
    (hbase : attributeBase (.Name n p) name X.env (eval (.Name n p) X.env) = eval (.Name n p) X.env := by rfl)
    (hfew : ((backTo cpos (starEach (e :: es) X.env)).all (fun x => !x.1) &&
        (backToKw cpos (keywordEach [] X.env)).all (fun x => x.1.isSome)
      && decide ((e :: es).length + ([] : List Keyword).length + (if
          ([] : List Keyword).isEmpty then 0 else 1) < 30)) = true := by rfl)
    (hline : (apos.endLine == cpos.line) = true := by rfl) (hs : starEach (e :: es) X.env = (false, eval e X.env) :: starEach es X.env := by rfl) (hplain : (backTo cpos (starEach es X.env)).any (·.1) = false := by rfl)
    (hsw : swapsWith (.Call (.Attribute (.Name n p) name apos) (e :: es) [] cpos) none pos.line X.env = pure false := by rfl) :
    DS X g W ca (.Expr (.Call (.Attribute (.Name n p) name apos) (e :: es) [] cpos) pos) (sMut i q fa) := by
  have hp := pe_bm pa slot hty hm ho ha.pa hbase hfew hline hs hplain
  rw [cy.k] at hp
  refine ⟨PSimp (ps_expr hp hsw) fun A σ H ⟨T, F, env, hT, ok, xs, e1, h⟩ => ?_, fun A B env l ⟨xs, e1, h⟩ => ⟨xs, e1, ha.mono env _ _ _ _ (fun rs q => mq _ _ _ _ (fun ys q => l.nx _ q) q) (fun x q => l.ex _ _ q) h⟩⟩
  obtain ⟨a, e2, oa⟩ := ok.own i xs e1
  obtain ⟨vs0, e3, e4⟩ := oa.at'
  refine ⟨.ref a, e2, .inl ⟨rfl, vs0, .inl (.inl e3)⟩, ?_⟩
  refine run_a ok (by omega) ha.mono h (fun rs q F1 H1 ws w o rr => ?_) (exE.of ok (by omega) rfl)
  obtain ⟨b, e5, oa2⟩ := o.own i xs e1
  rw [e2] at e5
  cases e5
  obtain ⟨vs, e6, e7⟩ := oa2.at'
  exact hq o e6 e7 rr q fun ys us v py ry => py F1 σ _ w.ff (o.mut e1 e2 ry)
def appQ : QM := fun rs xs P => match rs with
  | [.val d] => xs.length < LIM ∧ P (xs ++ [d])
  | _ => False
theorem mono_appQ : MonoM appQ := fun rs xs P P' hp q => by
  unfold appQ at q ⊢
  split
  · exact ⟨q.1, hp _ q.2⟩
  · split at q
    · simp_all
    · exact q
theorem d_append : MutD g rAppend appQ := by
  intro T F env σ H Hs rs ws a xs vs P Q ok ha r rr q k
  unfold appQ at q
  split at q
  · obtain ⟨v, rfl, rv⟩ := rs1 (rs := []) rr
    exact ⟨a, vs, v, rfl, rfl, ha, lim_lt (by rw [← r.length]; exact q.1), k _ _ _ q.2 (r.append (repL_cons.mpr ⟨v, [], rfl, rv, repL_nil.mpr rfl⟩))⟩
  · exact q.elim
def insQ : QM := fun rs xs P => match rs with
  | [.val (.int i), .val d] => xs.length < LIM ∧ 0 ≤ i ∧ i < 2 ^ 63 ∧ P (xs.take i.toNat ++ [d] ++ xs.drop i.toNat)
  | _ => False
theorem mono_insQ : MonoM insQ := fun rs xs P P' hp q => by
  unfold insQ at q ⊢
  split
  · exact ⟨q.1, q.2.1, q.2.2.1, hp _ q.2.2.2⟩
  · split at q
    · simp_all
    · exact q
theorem d_insert : MutD g (fun x vs H Q => ∃ (l : Addr) (xs : List V) (i : Int) (y : V), x = .ref l ∧ vs = [.int i, y] ∧ H l = some (.lst xs) ∧ xs.length < sizeLine ∧ 0 ≤ i ∧ i < 2 ^ 63 ∧ Q .non (upd H l (.lst (xs.take i.toNat ++ [y] ++ xs.drop i.toNat)))) insQ := by
  intro T F env σ H Hs rs ws a xs vs P Q ok ha r rr q k
  unfold insQ at q
  split at q
  · obtain ⟨v, u, rfl, rv, ru⟩ := rs2 rr
    simp only [RepR, Rep] at rv
    subst rv
    exact ⟨a, vs, _, u, rfl, rfl, ha, lim_lt (by rw [← r.length]; exact q.1), q.2.1, q.2.2.1, k _ _ _ q.2.2.2 (((r.take _).append (repL_cons.mpr ⟨u, [], rfl, ru, repL_nil.mpr rfl⟩)).append (r.drop _))⟩
  · exact q.elim
abbrev FD := List RV → (RV → Prop) → (Exc → Prop) → Prop
def MonoF (f : FD) : Prop := ∀ rs Q Q' E E', (∀ r, Q r → Q' r) → (∀ x, E x → E' x) → f rs Q E → f rs Q' E'
def ArgR (K : PySem.W.Frag) (st : Addr) (F : Hp) : List RV → List V → Prop
  | [], vs => vs = []
  | r :: rs, vs => ∃ v w, vs = v :: w ∧ (match r with | .val d => Rep K F d v | .sto => v = .ref st | _ => False) ∧ ArgR K st F rs w
theorem ArgR.length {K : PySem.W.Frag} {st : Addr} {F : Hp} : ∀ {rs : List RV} {vs : List V}, ArgR K st F rs vs → vs.length = rs.length
  | [], _, h => by rw [show _ = _ from h]; rfl
  | r :: rs, _, h => by
    obtain ⟨v, w, rfl, _, h2⟩ := h
    simp [ArgR.length h2]
def spD (K : PySem.W.Frag) (n : Nat) (f : FD) : Sp := fun vs H Q E => ∃ st F rs, rs.length = n ∧ StoreAt K st 0 F H ∧ Ex F H ∧ ArgR K st F rs vs ∧
  f rs (fun r => ∀ F' H' v, Grow st F H F' H' → StoreAt K st 0 F' H' → RetR K st H F' H' r v → Q v H') (fun x => ∀ F' H' d, Grow st F H F' H' → StoreAt K st 0 F' H' → RepX K F' x d → E (.ref x.C) d H')
def slotOf : RV → Option SV
  | .val d => some (.val d)
  | .sto => some .sto
  | _ => none
def startE (n : Nat) (rs : List RV) : En := rs.map slotOf ++ List.replicate (n - rs.length) none
theorem argR_get {K : PySem.W.Frag} {st : Addr} {F : Hp} : ∀ {rs : List RV} {vs : List V} {i : Nat} {s : SV}, ArgR K st F rs vs → (rs.map slotOf)[i]? = some (some s) → ∃ v, vs[i]? = some v ∧ (match s with | .val d => Rep K F d v | .sto => v = .ref st | _ => False)
  | [], _, _, _, _, e => by simp at e
  | r :: rs, _, 0, s, h, e => by
    obtain ⟨v, w, rfl, h1, h2⟩ := h
    simp at e
    refine ⟨v, rfl, ?_⟩
    cases r <;> simp [slotOf] at e <;> subst e <;> exact h1
  | r :: rs, _, i + 1, s, h, e => by
    obtain ⟨v, w, rfl, h1, h2⟩ := h
    simpa using argR_get h2 (by simpa using e)
theorem ok_start {K : PySem.W.Frag} {st : Addr} {N : List Str} {rs : List RV} {vs : List V} (s : StoreAt K st T F H) (e : Ex F H) (a : ArgR K st F rs vs) (hn : rs.length ≤ N.length) : Ok ⟨K, st, F, H⟩ T F (startE N.length rs) (L2.start N vs) H := by
  have hl := a.length
  have key : ∀ {i : Nat} {s : SV}, (startE N.length rs)[i]? = some (some s) → ∃ v, (L2.start N vs)[i]? = some (some v) ∧ (match s with | .val d => Rep K F d v | .sto => v = .ref st | _ => False) := fun {i s} q => by
    unfold startE at q
    by_cases hi : i < rs.length
    · rw [List.getElem?_append_left (by simpa using hi)] at q
      obtain ⟨v, h1, h2⟩ := argR_get a q
      refine ⟨v, ?_, h2⟩
      unfold L2.start
      rw [List.getElem?_append_left (by simp; omega), List.getElem?_map, h1]
      rfl
    · rw [List.getElem?_append_right (by simp; omega), List.getElem?_replicate] at q
      split at q <;> simp at q
  refine ⟨Grow.refl e s.free, s, by simp [startE, L2.start]; omega, fun i d q => ?_, fun i q => ?_, fun i xs q => ?_, fun i j xs ys _ q => ?_⟩
  · exact key q
  · obtain ⟨v, h1, h2⟩ := key q
    rw [h1]
    exact congrArg (fun z => some (some z)) h2
  · obtain ⟨v, h1, h2⟩ := key q
    exact h2.elim
  · obtain ⟨v, h1, h2⟩ := key q
    exact h2.elim
abbrev endsD (Q : RV → Prop) (E : Exc → Prop) : DEn := ⟨fun _ => Q (.val .non), Q, fun _ => False, fun _ => False, fun _ x => E x⟩
end
end DL
namespace L2
open PySem PySem.Spec PyProof.Rows
theorem Fun.okN {P : Program} {w : World} {K : PySem.W.Frag} {mg : Str → Option Value} {base : Heap} {x qual : Str} {st : Stmt} {f : Addr} {fd : FuncData} {N ps : List Str} {k : Nat} {sp : Sp} (F : Fun K x qual st f fd) (S : FnScope N ps (defScope st)) (len : ∀ vs H Q E, sp vs H Q E → vs.length = ps.length)
    (hbody : ∀ (cdv : Value) (A : Around) (outer : List PySem.Env) (s : Shared) (H : Hp) (vs : List V) (Q : VK) (E : XK), Room k (A.deeper (envOfC qual (defScope st) s.heap.objs.size f cdv)) → sp vs H Q E →
      ∃ t, PSs (cxOf (L2N.CX P w) P w K mg base N qual (defScope st) f cdv A outer s H E) (defBody st) t ∧ t { nx := fun _ H' => Q .non H', rt := Q } (start N vs) H) : FnOk P w K mg base (L2N.CX P w) (k + 1) f fd ps sp := by
  obtain ⟨oc, od, kV, doc, pm, an, cdv, ct, osl,
      rfl, lk, hcd⟩ := F.ex
  exact fn_of lk hcd S len
      fun A outer s H vs Q E hr hsp => hbody cdv A outer s H vs Q E hr hsp
end L2
namespace DL
open PySem PySem.Spec L2
section
theorem fn_okD {P : Program} {w : World} {K : PySem.W.Frag} {mg : Str → Option Value} {base : Heap} {x qual : Str} {st : Stmt} {f : Addr} {fd : FuncData} {N ps : List Str} {k : Nat} {fn : FD} (Fn : Fun K x qual st f fd) (S : FnScope N ps (defScope st)) (hn : ps.length ≤ N.length)
    (hb : ∀ (cdv : Value) (A : Around) (outer : List PySem.Env) (s : Shared) (H : Hp) (E : XK) (g : G), g.K = K → Room k (A.deeper (PyProof.Rows.envOfC qual (defScope st) s.heap.objs.size f cdv)) →
      Cy (cxOf (L2N.CX P w) P w K mg base N qual (defScope st) f cdv A outer s H E) g (fun cls d _ H => E cls d H) →
      ∃ c fb, DSs (cxOf (L2N.CX P w) P w K mg base N qual (defScope st) f cdv A outer s H E) g (fun cls d _ H => E cls d H) c (defBody st) fb ∧ ∀ rs Q Ex, rs.length = ps.length → fn rs Q Ex → fb (endsD Q Ex) (startE N.length rs)) :
    FnOk P w K mg base (L2N.CX P w) (k + 1) f fd ps (spD K ps.length fn) := by
  refine Fn.okN S (fun vs H Q E h => ?_) (fun cdv A outer s H vs Q E hr h => ?_)
  · obtain ⟨st, F, rs, h1, _, _, h2, _⟩ := h
    rw [h2.length, h1]
  · obtain ⟨st, F, rs, h1, hs, he, ha, hf⟩ := h
    obtain ⟨c, fb, d, imp⟩ := hb cdv A outer s H E ⟨K, st, F, H⟩ rfl hr ⟨rfl, L2N.takes_of rfl rfl rfl rfl, by have := hr.un; show (A.deeper (PyProof.Rows.envOfC qual (defScope _) s.heap.objs.size f cdv)).units + 66 < cLine; omega, passes_of rfl⟩
    have q := imp rs _ _ h1 hf
    refine ⟨_, d.ps, 0, F, startE N.length rs, Nat.le_refl _, ok_start hs he ha (by omega), d.mono _ _ _ ?_ q⟩
    refine ⟨fun e q F' σ' H' e' o => q F' H' .non o.grow o.sto.any (by simp only [RetR, Rep]), fun r q F' H' v w s rr => q F' H' v w s.any rr, fun e q => q.elim, fun e q => q.elim, fun e x q F' σ' H' d e' o rx => q F' H' d o.grow o.sto.any rx⟩
def Fx {α : Type} (_ : α) : Type := Unit
def app (fn : FD) (rs : List RV) (Q : RV → Prop) (E : Exc → Prop) (_u : Fx (Q, E) := ()) : Prop := fn rs Q E
def argOk : RV → Prop
  | .val _ => True
  | .sto => True
  | _ => False
def eFn (n : Nat) (fn : FD) (fa : AD) : ED := fun env Q E => fa env (fun rs => rs.length = n ∧ (∀ r ∈ rs, argOk r) ∧ app fn rs Q E) E
theorem argR_of : ∀ {rs : List RV} {vs : List V}, (∀ r ∈ rs, argOk r) → RepRs g Hs F H env σ rs vs → ArgR g.K g.st F rs vs
  | [], _, _, h => h
  | r :: rs, _, n, h => by
    obtain ⟨v, w, rfl, h1, h2⟩ := h
    refine ⟨v, w, rfl, ?_, argR_of (fun r hr => n r (List.mem_cons_of_mem _ hr)) h2⟩
    have hn := n r List.mem_cons_self
    cases r with
    | val d => exact h1
    | sto => exact h1
    | own _ => exact hn.elim
    | bor _ => exact hn.elim
theorem de_call (cy : Cy X g W) {k n : Nat} {f : Addr} {fd : FuncData} {ps : List Str} {fn : FD} {fa : AD} {x : Str} {e : Expr} {es : List Expr} {p pos : Pos} (Fn : FnOk X.prog X.w X.K X.mg X.base (L2N.CX X.prog X.w) k f fd ps (spD X.K n fn)) (mf : MonoF fn) (hr : Room k X.A) (hg : Gl X x) (hm : X.mg x = some (.ref f)) (hk : PySem.W.keepIn X.K (.ref f) = true) (hb : L2.Binds X.K fd ps [])
    (ha : DA X g W ca (e :: es) fa) (hdb : (x == ("__debug__" : Str)) = false := by decide) (he : starEach (e :: es) X.env = (false, eval e X.env) :: starEach es X.env := by rfl) (hpl : (backTo pos (starEach es X.env)).any (·.1) = false := by rfl) :
    DE X g W ca (.Call (.Name x p) (e :: es) [] pos) (eFn n fn fa) := by
  refine ⟨PEimp (pe_callS Fn hr hg hm hk hb (fun σ => L2N.passAt cy.tk σ) ha.pa hdb he hpl) fun σ H Q ⟨T, F, env, hT, ok, h⟩ => ?_, fun env Q Q' E E' hq he h => ha.mono env _ _ _ _ (fun rs q => ⟨q.1, q.2.1, mf _ _ _ _ _ hq he q.2.2⟩) he h⟩
  refine run_a ok (by omega) ha.mono h (fun rs ⟨hl, hv, q⟩ F1 H1 vs w o rr => ?_) (exE.shift ok.refl (by omega))
  have ar := argR_of hv rr
  show spD X.K n fn vs H1 Q (WE W σ)
  rw [cy.k]
  refine ⟨g.st, F1, rs, hl, o.sto.any, o.fh, ar, mf _ _ _ _ _ (fun r q F' H' v w2 s2 r2 => ?_) (fun x q F' H' d w2 s2 rx => ?_) q⟩
  · refine q F' H' v (w.trans w2) (o.grown w2 s2.any) ?_
    cases r with
    | val d => exact r2
    | sto => exact r2
    | bor ys => exact r2.elim
    | own ys =>
      obtain ⟨a, rfl, n1, n2, n3, n4⟩ := r2
      have oa : OwnAt g H1 F' H' a ys := ⟨n1, n2, n3, n4⟩
      exact ⟨a, rfl, oa.since w, o.notOwn n2⟩
  · exact q F' H' d (w.trans w2) (o.grown w2 s2.any) rx
end
end DL
namespace DL
open PySem PySem.Spec L2
section
variable {X : Cx} {g : G} {W : WX} {ca cb cc : Nat} {fa fb fc : ED} {ta : TD} {a b c e : Expr} {pos p p2 : Pos} {x : Str}
theorem de_add (cy : Cy X g W) (ha : DE X g W ca a fa) (hb : DE X g W cb b fb) : DE X g W (ca + cb) (.BinOp a .Add b pos) (eOp addQ fa fb) := de_op (by have h := op_addA (X := X); rw [cy.k] at h; exact h) d_add mono_addQ ha hb
theorem de_sub (cy : Cy X g W) (ha : DE X g W ca a fa) (hb : DE X g W cb b fb) : DE X g W (ca + cb) (.BinOp a .Sub b pos) (eOp subQ fa fb) := de_op op_sub d_sub mono_int0Q ha hb
theorem de_mul (cy : Cy X g W) (ha : DE X g W ca a fa) (hb : DE X g W cb b fb) : DE X g W (ca + cb) (.BinOp a .Mult b pos) (eOp mulQ fa fb) := de_op op_mulA d_mul mono_mulQ ha hb
theorem de_fdiv (cy : Cy X g W) (ha : DE X g W ca a fa) (hb : DE X g W cb b fb) : DE X g W (ca + cb) (.BinOp a .FloorDiv b pos) (eOp fdivQ fa fb) := de_op op_fdivN d_fdiv mono_intQ ha hb
theorem de_mod (cy : Cy X g W) (ha : DE X g W ca a fa) (hb : DE X g W cb b fb) : DE X g W (ca + cb) (.BinOp a .Mod b pos) (eOp modQ fa fb) := de_op op_modN d_mod mono_intQ ha hb
theorem de_pow (cy : Cy X g W) (ha : DE X g W ca a fa) (hb : DE X g W cb b fb) : DE X g W (ca + cb) (.BinOp a .Pow b pos) (eOp powQ fa fb) := de_op op_pow d_pow mono_intQ ha hb
theorem de_eq (cy : Cy X g W) (ha : DE X g W ca a fa) (hb : DE X g W cb b fb) : DE X g W (ca + cb) (.Compare a [.Eq] [b] pos) (eOp eqQ fa fb) := de_cmp (by have h := op_eqA (X := X) cy.un; rw [cy.k] at h; exact h) d_eq mono_eqlQ ha hb (nomark _)
theorem de_in (cy : Cy X g W) (ha : DE X g W ca a fa) (hb : DE X g W cb b fb) (hm : behindInMarks .In b = false := by rfl) : DE X g W (ca + cb) (.Compare a [.In] [b] pos) (eOp inQ fa fb) := de_cmp (by have h := op_inA (X := X); rw [cy.k] at h; exact h) d_in mono_inlQ ha hb hm
theorem de_is (cy : Cy X g W) (ha : DE X g W ca a fa) (hb : DE X g W cb b fb) : DE X g W (ca + cb) (.Compare a [.Is] [b] pos) (eOp isNQ fa fb) := de_cmp op_isNA d_isN mono_isNlQ ha hb (nomark _)
theorem dt_lt (cy : Cy X g W) (ha : DE X g W ca a fa) (hb : DE X g W cb b fb) : DT X g W (ca + cb) (.Compare a [.Lt] [b] pos) (tBool (eOp ltQ fa fb)) := dt_cmp op_lt d_lt mono_int0Q ha hb (nomark _)
theorem dt_le (cy : Cy X g W) (ha : DE X g W ca a fa) (hb : DE X g W cb b fb) : DT X g W (ca + cb) (.Compare a [.LtE] [b] pos) (tBool (eOp leQ fa fb)) := dt_cmp op_le d_le mono_int0Q ha hb (nomark _)
theorem dt_gt (cy : Cy X g W) (ha : DE X g W ca a fa) (hb : DE X g W cb b fb) : DT X g W (ca + cb) (.Compare a [.Gt] [b] pos) (tBool (eOp gtQ fa fb)) := dt_cmp op_gt d_gt mono_int0Q ha hb (nomark _)
theorem dt_eq (cy : Cy X g W) (ha : DE X g W ca a fa) (hb : DE X g W cb b fb) : DT X g W (ca + cb) (.Compare a [.Eq] [b] pos) (tBool (eOp eqQ fa fb)) := dt_cmp (by have h := op_eqA (X := X) cy.un; rw [cy.k] at h; exact h) d_eq mono_eqlQ ha hb (nomark _)
theorem dt_ne (cy : Cy X g W) (ha : DE X g W ca a fa) (hb : DE X g W cb b fb) : DT X g W (ca + cb) (.Compare a [.NotEq] [b] pos) (tBool (eOp neQ fa fb)) := dt_cmp (by have h := op_neA (X := X) cy.un; rw [cy.k] at h; exact h) d_ne mono_eqlQ ha hb (nomark _)
theorem dt_in (cy : Cy X g W) (ha : DE X g W ca a fa) (hb : DE X g W cb b fb) (hm : behindInMarks .In b = false := by rfl) : DT X g W (ca + cb) (.Compare a [.In] [b] pos) (tBool (eOp inQ fa fb)) := dt_cmp (by have h := op_inA (X := X); rw [cy.k] at h; exact h) d_in mono_inlQ ha hb hm
theorem dt_notin (cy : Cy X g W) (ha : DE X g W ca a fa) (hb : DE X g W cb b fb) (hm : behindInMarks .NotIn b = false := by rfl) : DT X g W (ca + cb) (.Compare a [.NotIn] [b] pos) (tBool (eOp notInQ fa fb)) := dt_cmp (by have h := op_notInA (X := X); rw [cy.k] at h; exact h) d_in mono_inlQ ha hb hm
theorem dt_is (cy : Cy X g W) (ha : DE X g W ca a fa) (hb : DE X g W cb b fb) : DT X g W (ca + cb) (.Compare a [.Is] [b] pos) (tBool (eOp isNQ fa fb)) := dt_cmp op_isNA d_isN mono_isNlQ ha hb (nomark _)
theorem dt_isnot (cy : Cy X g W) (ha : DE X g W ca a fa) (hb : DE X g W cb b fb) : DT X g W (ca + cb) (.Compare a [.IsNot] [b] pos) (tBool (eOp notNQ fa fb)) := dt_cmp op_notNA d_isN mono_isNlQ ha hb (nomark _)
theorem de_item (cy : Cy X g W) (ha : DE X g W ca a fa) (hb : DE X g W cb b fb) (hs : PlainIx b := by exact fun _ _ => rfl) : DE X g W (ca + cb) (.Subscript a b pos) (eOp ixQ fa fb) := de_ix (by have h := ix_seq (X := X); rw [cy.k] at h; exact h) d_ix mono_ixQ ha hb hs
def eNeg (fa : ED) : ED := fun env Q E => fa env (fun r => match r with | .val (.int i) => Q (.val (.int (-i))) | _ => False) E
theorem de_neg (cy : Cy X g W) (ha : DE X g W ca a fa) : DE X g W ca (.UnaryOp .USub a pos) (eNeg fa) := by
  refine ⟨PEimp (pe_un un_neg ha.pe) fun σ H Q ⟨T, F, env, hT, ok, h⟩ => ?_, fun env Q Q' E E' hq he q => ha.mono env _ _ _ _ (fun r q => by
    split at q
    · exact hq _ q
    · exact q) he q⟩
  refine run_e ok (by omega) ha.mono h (fun x hx F1 H1 v w o rx => ?_) (exE.shift ok.refl (by omega))
  split at hx
  · rename_i i
    simp only [RepR, Rep] at rx
    exact ⟨i, rx, hx F1 H1 (.int (-i)) w o (by simp only [RepR, Rep])⟩
  · exact hx.elim
section
variable {fs : AD} {es : List Expr}
theorem de_len (cy : Cy X g W) (hg : Gl X "len") (hm : X.mg "len" = none) (ha : DE X g W ca a fa) (h1 : starEach [a] X.env = (false, eval a X.env) :: starEach [] X.env := by rfl) (h2 : starEach [a] X.env = (false, eval a X.env) :: starEach [] X.env := by rfl) (h3 : (backTo pos (starEach [] X.env)).any (·.1) = false := by rfl) : DE X g W (ca + 0) (.Call (.Name "len" p) [a] [] pos) (eCall lenQ (aCons fa aNil)) :=
  de_callB (by have h := call_len (X := X); rw [cy.k] at h; exact h) d_len mono_lenQ hg hm PySem.boot_len (da_cons ha da_nil h1) (by decide) (by decide) h2 h3
theorem de_intf (cy : Cy X g W) (hg : Gl X "int") (hm : X.mg "int" = none) (ha : DE X g W ca a fa) (h1 : starEach [a] X.env = (false, eval a X.env) :: starEach [] X.env := by rfl) (h3 : (backTo pos (starEach [] X.env)).any (·.1) = false := by rfl) : DE X g W (ca + 0) (.Call (.Name "int" p) [a] [] pos) (eCall intOfQ (aCons fa aNil)) :=
  de_callTy call_int1 d_intOf mono_intOfQ hg hm (by decide +kernel) (da_cons ha da_nil h1) (by decide) (by decide) h1 h3
theorem de_strf (cy : Cy X g W) (hg : Gl X "str") (hm : X.mg "str" = none) (ha : DE X g W ca a fa) (h1 : starEach [a] X.env = (false, eval a X.env) :: starEach [] X.env := by rfl) (h3 : (backTo pos (starEach [] X.env)).any (·.1) = false := by rfl) : DE X g W (ca + 0) (.Call (.Name "str" p) [a] [] pos) (eCall strOfQ (aCons fa aNil)) :=
  de_callTy call_str_int d_strOf mono_strOfQ hg hm (by decide +kernel) (da_cons ha da_nil h1) (by decide) (by decide) h1 h3
theorem de_listf (cy : Cy X g W) (hg : Gl X "list") (hm : X.mg "list" = none) (ha : DE X g W ca a fa) (h1 : starEach [a] X.env = (false, eval a X.env) :: starEach [] X.env := by rfl) (h3 : (backTo pos (starEach [] X.env)).any (·.1) = false := by rfl) : DE X g W (ca + 0) (.Call (.Name "list" p) [a] [] pos) (eCall listOfQ (aCons fa aNil)) :=
  de_callTy (by have h := call_list_of (X := X); rw [cy.k] at h; exact h) d_listOf mono_listOfQ hg hm (by decide +kernel) (da_cons ha da_nil h1) (by decide) (by decide) h1 h3
theorem de_tupf (cy : Cy X g W) (hg : Gl X "tuple") (hm : X.mg "tuple" = none) (ha : DE X g W ca a fa) (h1 : starEach [a] X.env = (false, eval a X.env) :: starEach [] X.env := by rfl) (h3 : (backTo pos (starEach [] X.env)).any (·.1) = false := by rfl) : DE X g W (ca + 0) (.Call (.Name "tuple" p) [a] [] pos) (eCall tupOfQ (aCons fa aNil)) :=
  de_callTy (by have h := call_tuple_of (X := X); rw [cy.k] at h; exact h) d_tupOf mono_tupOfQ hg hm (by decide +kernel) (da_cons ha da_nil h1) (by decide) (by decide) h1 h3
theorem de_all (cy : Cy X g W) (hg : Gl X "all") (hm : X.mg "all" = none) (ha : DE X g W ca a fa) (h1 : starEach [a] X.env = (false, eval a X.env) :: starEach [] X.env := by rfl) (h3 : (backTo pos (starEach [] X.env)).any (·.1) = false := by rfl) (hc : X.calm = true := by rfl) : DE X g W (ca + 0) (.Call (.Name "all" p) [a] [] pos) (eCall (allQ false) (aCons fa aNil)) :=
  de_callB (by have h := cr_all (X := X) hc; rw [cy.k] at h; exact h) d_all mono_allQ hg hm (by decide +kernel) (da_cons ha da_nil h1) (by decide) (by decide) h1 h3
theorem de_max2 (cy : Cy X g W) (hg : Gl X "max") (hm : X.mg "max" = none) (ha : DA X g W ca [a, b] fs) (h1 : starEach [a, b] X.env = (false, eval a X.env) :: starEach [b] X.env := by rfl) (h3 : (backTo pos (starEach [b] X.env)).any (·.1) = false := by rfl) (hc : X.calm = true := by rfl) : DE X g W ca (.Call (.Name "max" p) [a, b] [] pos) (eCall max2Q fs) :=
  de_callB (call_max2 hc) d_max2 mono_max2Q hg hm (by decide +kernel) ha (by decide) (by decide) h1 h3
theorem de_min2 (cy : Cy X g W) (hg : Gl X "min") (hm : X.mg "min" = none) (ha : DA X g W ca [a, b] fs) (h1 : starEach [a, b] X.env = (false, eval a X.env) :: starEach [b] X.env := by rfl) (h3 : (backTo pos (starEach [b] X.env)).any (·.1) = false := by rfl) (hc : X.calm = true := by rfl) : DE X g W ca (.Call (.Name "min" p) [a, b] [] pos) (eCall min2Q fs) :=
  de_callB (call_min2 hc) d_min2 mono_min2Q hg hm (by decide +kernel) ha (by decide) (by decide) h1 h3
theorem de_isi (cy : Cy X g W) (hg : Gl X "isinstance") (hm : X.mg "isinstance" = none) (ha : DA X g W ca [a, b] fs) (h1 : starEach [a, b] X.env = (false, eval a X.env) :: starEach [b] X.env := by rfl) (h3 : (backTo pos (starEach [b] X.env)).any (·.1) = false := by rfl) : DE X g W ca (.Call (.Name "isinstance" p) [a, b] [] pos) (eCall isiQ fs) :=
  de_callB (by have h := call_isi (X := X); rw [cy.k] at h; exact h) d_isi mono_isiQ hg hm (by decide +kernel) ha (by decide) (by decide) h1 h3
end
theorem ds_append (cy : Cy X g W) (i : Nat) {n : Str} {apos cpos : Pos} (ho : PE X (.Name n p) (tVar i)) (ha : DE X g W ca e fa)
    (h1 : starEach [e] X.env = (false, eval e X.env) :: starEach [] X.env := by rfl)
    (hbase : attributeBase (.Name n p) "append" X.env (eval (.Name n p) X.env) = eval (.Name n p) X.env := by rfl)
    (hfew : ((backTo cpos (starEach [e] X.env)).all (fun x => !x.1) &&
        (backToKw cpos (keywordEach [] X.env)).all (fun x => x.1.isSome)
      && decide ([e].length + ([] : List Keyword).length + (if ([] : List Keyword).isEmpty then 0 else 1) < 30)) = true := by rfl)
    (hline : (apos.endLine == cpos.line) = true := by rfl) (hplain : (backTo cpos (starEach [] X.env)).any (·.1) = false := by rfl)
    (hsw : swapsWith (.Call (.Attribute (.Name n p) "append" apos) [e] [] cpos) none pos.line X.env = pure false := by rfl) :
    DS X g W (ca + 0) (.Expr (.Call (.Attribute (.Name n p) "append" apos) [e] [] cpos) pos) (sMut i appQ (aCons fa aNil)) :=
  ds_mut cy i PySem.F.plainAttrs_list PySem.F.slot_list_append PySem.F.type_list_append mt_append d_append mono_appQ ho (da_cons ha da_nil h1) hbase hfew hline h1 hplain hsw
theorem ds_insert (cy : Cy X g W) (i : Nat) {n : Str} {apos cpos : Pos} {fs : AD} (ho : PE X (.Name n p) (tVar i)) (ha : DA X g W ca [a, b] fs)
    (h1 : starEach [a, b] X.env = (false, eval a X.env) :: starEach [b] X.env := by rfl)
    (hbase : attributeBase (.Name n p) "insert" X.env (eval (.Name n p) X.env) = eval (.Name n p) X.env := by rfl)
    (hfew : ((backTo cpos (starEach [a, b] X.env)).all (fun x => !x.1) && (backToKw cpos (keywordEach [] X.env)).all (fun x => x.1.isSome)
      && decide ([a, b].length + ([] : List Keyword).length + (if ([] : List Keyword).isEmpty then 0 else 1) < 30)) = true := by rfl)
    (hline : (apos.endLine == cpos.line) = true := by rfl) (hplain : (backTo cpos (starEach [b] X.env)).any (·.1) = false := by rfl)
    (hsw : swapsWith (.Call (.Attribute (.Name n p) "insert" apos) [a, b] [] cpos) none pos.line X.env = pure false := by rfl) :
    DS X g W ca (.Expr (.Call (.Attribute (.Name n p) "insert" apos) [a, b] [] cpos) pos) (sMut i insQ fs) :=
  ds_mut cy i PySem.F.plainAttrs_list PySem.F.slot_list_insert PySem.F.type_list_insert mt_insert d_insert mono_insQ ho ha hbase hfew hline h1 hplain hsw
theorem ds_store (i : Nat) {n : Str} {fk fe : ED} (hk : DE X g W ca a fk) (he : DE X g W cb e fe) (ho : PE X (.Name n p) (tVar i))
    (ha : ∀ v, assign (.Subscript (.Name n p) a p2) X.env v = (do
      let ov ← holding [v] (eval (.Name n p) X.env)
      let iv ← holding [v, ov] (eval a X.env)
      standAt p2
      holding [v, ov, iv] (setItem ov iv v)
      release [v, ov, iv] []) := by intro _; rfl) (hs : swapsWithSole [.Subscript (.Name n p) a p2] e pos.line X.env = pure false := by rfl) (hw : swappedStores [.Subscript (.Name n p) a p2] e X.env = pure none := by rfl) (hh : (assignEach [.Subscript (.Name n p) a p2] X.env).map (·.2) = [assign (.Subscript (.Name n p) a p2) X.env] := by rfl) :
    DS X g W (cb + ca) (.Assign [.Subscript (.Name n p) a p2] e pos) (sSetIx i fk fe) := ds_setIx i hk he ho (pg_own i hk ho ha) hs hw hh
end
def takeF : FD := fun rs Q _ => ∃ n : Int, rs = [.sto, .val (.int n)] ∧ n < 1073741824 ∧ ∀ r : Int, 0 ≤ r → (n < 2 → r = 0) → (2 ≤ n → r < n) → Q (.val (.int r))
theorem mono_takeF : MonoF takeF := fun rs Q Q' E E' hq he ⟨n, h1, h2, h3⟩ => ⟨n, h1, h2, fun r a b c => hq _ (h3 r a b c)⟩
end DL
namespace DL
open PySem PySem.Spec L2
theorem forW_inv {b : BD} {fb : SD} {A : DEn} {items : List D} (I : Nat → En → Prop)
    (hs : ∀ i d env (N : En → Prop), items[i]? = some d → I i env → (∀ e, I (i + 1) e → N e) → b d env (fun env1 => fb { A with nx := N, ct := N, bk := A.nx } env1))
    (hd : ∀ env, I items.length env → A.nx env) : ∀ env, I 0 env → forW b fb A items env := by
  have key : ∀ (n i : Nat) env, items.length - i = n → i ≤ items.length → I i env → forW b fb A (items.drop i) env := by
    intro n
    induction n with
    | zero =>
      intro i env h hi hI
      have e : i = items.length := by omega
      subst e
      rw [List.drop_length]
      exact hd env hI
    | succ n ih =>
      intro i env h hi hI
      have hlt : i < items.length := by omega
      rw [List.drop_eq_getElem_cons hlt]
      exact hs i _ env _ (List.getElem?_eq_getElem hlt) hI fun e he => ih (i + 1) e (by omega) hlt he
  intro env h
  exact key items.length 0 env rfl (Nat.zero_le _) h
theorem lcW_map {b : BD} {ft : TD} {fe : ED} {env0 : En} {Q : List D → Prop} (p : D → Bool) (f : D → D) : ∀ (ds acc : List D),
    (∀ d ∈ ds, ∀ (Y : D → Prop) (N : Prop), (p d = true → Y (f d)) → (p d = false → N) → b d env0 (fun env1 => ft env1 (fun t => if t = true then frz fe env1 (fun r => ∃ e, r = .val e ∧ Y e) (fun _ => False) else N) (fun _ => False))) →
    Q (acc ++ (ds.filter p).map f) → lcW b ft fe env0 Q ds acc
  | [], acc, _, h => by simpa [lcW] using h
  | d :: ds, acc, hs, h => by
    refine hs d List.mem_cons_self _ _ (fun hp => ?_) (fun hp => ?_)
    · refine lcW_map p f ds _ (fun d' m => hs d' (List.mem_cons_of_mem _ m)) ?_
      rw [List.filter_cons_of_pos hp] at h
      simpa using h
    · refine lcW_map p f ds _ (fun d' m => hs d' (List.mem_cons_of_mem _ m)) ?_
      rw [List.filter_cons_of_neg (by simp [hp])] at h
      exact h
theorem lcW_draw {b : BD} {ft : TD} {fe : ED} {env0 : En} {Q : List D → Prop} (R : D → D → Prop) : ∀ (ds acc : List D),
    (∀ d ∈ ds, ∀ (Y : D → Prop) (N : Prop), (∀ e, R d e → Y e) → b d env0 (fun env1 => ft env1 (fun t => if t = true then frz fe env1 (fun r => ∃ e, r = .val e ∧ Y e) (fun _ => False) else N) (fun _ => False))) →
    (∀ es : List D, es.length = ds.length → (∀ (i : Nat) d e, ds[i]? = some d → es[i]? = some e → R d e) → Q (acc ++ es)) → lcW b ft fe env0 Q ds acc
  | [], acc, _, h => by simpa [lcW] using h [] rfl (by simp)
  | d :: ds, acc, hs, h => by
    refine hs d List.mem_cons_self _ _ (fun e he => ?_)
    refine lcW_draw R ds _ (fun d' m => hs d' (List.mem_cons_of_mem _ m)) fun es hl hr => ?_
    have q := h (e :: es) (by simp [hl]) (fun i d' e' h1 h2 => by
      cases i with
      | zero =>
        simp at h1 h2
        subst h1; subst h2
        exact he
      | succ i => exact hr i d' e' (by simpa using h1) (by simpa using h2))
    simpa using q
section
variable {K : PySem.W.Frag} {st : Addr} {F H : Hp}
structure Sto (K : PySem.W.Frag) (st : Addr) (F H : Hp) (c : Addr) (ns : List Int) (i r sd t : Int) : Prop where
  at' : H st = some (.lst [.ref c, .int i, .int r, .int sd, .int t])
  free : F st = none
  cells : ∃ o : Obj, F c = some (.frz o (.lst (ns.map V.int)))
  few : ns.length ≤ 63
  i0 : 0 ≤ i
  r0 : 0 ≤ r
  s0 : 0 ≤ sd
  s1 : sd < 2147483648
  t0 : 0 ≤ t
theorem Sto.of {T : Nat} (h : StoreAt K st T F H) : ∃ c ns i r sd t, Sto K st F H c ns i r sd t := by
  obtain ⟨c, ns, i, r, sd, t, h1, h2, h3, h4, h5, h6, h7, h8⟩ := h.at'
  exact ⟨c, ns, i, r, sd, t, h1, h.free, h2, h3, h4, h5, h6, h7, h8⟩
theorem Sto.store {c : Addr} {ns : List Int} {i r sd t : Int} {T : Nat} (h : Sto K st F H c ns i r sd t) : StoreAt K st T F H := ⟨h.free, c, ns, i, r, sd, t, h.at', h.cells, h.few, h.i0, h.r0, h.s0, h.s1, h.t0⟩
theorem Sto.sq {c : Addr} {ns : List Int} {i r sd t : Int} (h : Sto K st F H c ns i r sd t) : SqL K F c (ns.map V.int) := .inl (.inr h.cells)
theorem Sto.put {c : Addr} {ns : List Int} {i r sd t i' r' sd' t' : Int} (h : Sto K st F H c ns i r sd t) (h1 : 0 ≤ i') (h2 : 0 ≤ r') (h3 : 0 ≤ sd') (h4 : sd' < 2147483648) (h5 : 0 ≤ t') :
    Sto K st F (upd H st (.lst [.ref c, .int i', .int r', .int sd', .int t'])) c ns i' r' sd' t' := ⟨upd_same, h.free, h.cells, h.few, h1, h2, h3, h4, h5⟩
theorem Grow.put {F0 H0 : Hp} {o : HO} (g : Grow st F0 H0 F H) : Grow st F0 H0 F (upd H st o) :=
  ⟨g.ff, fun b x e => by rw [upd_ne (ne_of_none e g.sf)]; exact g.fh b x e, fun b x n e => by rw [upd_ne n]; exact g.hh b x n e, g.nf, g.sf⟩
end
def mixedF : FD := fun rs Q _ => ∃ a t : Int, rs = [.val (.int a), .val (.int t)] ∧ ∀ r : Int, 0 ≤ r → r < 2147483399 → Q (.val (.int r))
theorem mono_mixedF : MonoF mixedF := fun rs Q Q' E E' hq he ⟨n, t, h1, h3⟩ => ⟨n, t, h1, fun r a b => hq _ (h3 r a b)⟩
end DL
namespace DL
open PySem PySem.Spec L2
section
variable {X : Cx} {g : G} {W : WX} {ca cb cc k n : Nat} {f : Addr} {fd : FuncData} {ps ks : List Str} {fn : FD} {fa : ED} {fs : AD} {x : Str} {p pos kpos : Pos} {e : Expr} {es : List Expr} {kws : List Keyword} {nm : Option Str}
def eFn0 (fn : FD) : ED := fun env Q E => app fn [] Q (fun _ => False)
theorem passesF (X : Cx) : Passes (L2N.CX X.prog X.w) X (fun _ _ _ => False) := fun pins σ H s e s' I c => by
  exact (L2N.Takes.imp (W := fun _ _ _ _ => False) (W' := fun _ _ _ _ => False) (fun u s' ⟨a, B, sI, pins, σ, H, cls, d, e, I, nb, up, sky, na, os, ag, w⟩ => w.elim) (fun _ _ _ _ h => h)) e s' (L2N.XE.of_call I (fun _ _ _ h => h) c)
structure DK (X : Cx) (g : G) (W : WX) (c : Nat) (kws : List Keyword) (f : AD) : Prop where
  pk : PK X kws (tDA g W c f)
  mono : MonoE f
theorem PKimp {t t' : TA} (h : PK X kws t) (i : ∀ σ H Q, t' σ H Q → t σ H Q) : PK X kws t' := ⟨fun pos pins s σ H Q I q => h.run pos pins s σ H Q I (i σ H Q q)⟩
theorem dk_nil : DK X g W 0 [] aNil := ⟨PKimp pk_nil fun σ H Q ⟨T, F, env, hT, ok, h⟩ => h F H [] ok.refl ok rfl, fun env Q Q' E E' hq he q => hq _ q⟩
theorem dk_cons {fr : AD} (ha : DE X g W ca e fa) (hr : DK X g W cb kws fr) : DK X g W (ca + cb) (⟨nm, e, kpos⟩ :: kws) (aCons fa fr) := by
  refine ⟨PKimp (pk_cons ha.frz.pe hr.pk) fun σ H Q ⟨T, F, env, hT, ok, h⟩ => ?_, fun env Q Q' E E' hq he h => ha.frz.mono env _ _ _ _ (fun x hx => hr.mono env _ _ _ _ (fun y hy => hq _ hy) he hx) he h⟩
  refine run_e ok (by omega) ha.frz.mono h (fun x hx F1 H1 v w o rx => ?_) (exE.shift ok.refl (by omega))
  refine run_a o (by omega) hr.mono hx (fun y hy F2 H2 v2 w2 o2 ry => ?_) (exE.shift w (by omega))
  exact hy F2 H2 (v :: v2) (w.trans w2) (by rw [← Nat.add_assoc]; exact o2) ⟨v, v2, rfl, rx.grow w2, ry.since w⟩
structure KB (K : PySem.W.Frag) (fd : FuncData) (ps ks : List Str) (pm : {α : Type} → List α → List α) : Prop where
  to : ∀ (s : Shared) (ws : List Value), ws.length = ks.length → BindsTo s fd ⟨[], ks.zip ws⟩ (ps.zip (pm ws))
  rel : ∀ {vs : List V} {ws : List Value}, vs.length = ks.length → Vals vs ws → Vals (pm vs) (pm ws)
  arg : ∀ {st : Addr} {F : Hp} {rs : List RV} {vs : List V}, rs.length = ks.length → ArgR K st F rs vs → ArgR K st F (pm rs) (pm vs)
def eFnK (n : Nat) (pm : {α : Type} → List α → List α) (fn : FD) (fa : AD) : ED := fun env Q E => fa env (fun rs => rs.length = n ∧ (pm rs).length = n ∧ (∀ r ∈ rs, argOk r) ∧ app fn (pm rs) Q E) E
open PyProof.Rows in
theorem de_callK (cy : Cy X g W) {pm : {α : Type} → List α → List α} (Fn : FnOk X.prog X.w X.K X.mg X.base (L2N.CX X.prog X.w) k f fd ps (spD X.K ks.length fn)) (mf : MonoF fn) (hr : Room k X.A) (hg : Gl X x) (hm : X.mg x = some (.ref f)) (hk : PySem.W.keepIn X.K (.ref f) = true) (hb : KB X.K fd ps ks pm)
    (ha : DK X g W ca kws fs) (hall : (backToKw pos (keywordEach kws X.env)).all (·.1.isSome) = true := by rfl) (hks : (backToKw pos (keywordEach kws X.env)).filterMap (·.1) = ks := by rfl) (hdb : (x == ("__debug__" : Str)) = false := by decide)
    (hpl : ((backTo pos (starEach [] X.env)).any (·.1) || (backToKw pos
        (keywordEach kws X.env)).any (·.1.isNone)) = false := by rfl) :
    DE X g W ca (.Call (.Name x p) [] kws pos) (eFnK ks.length pm fn fs) := by
  refine ⟨⟨fun pins s σ H Q I h => ?_⟩, fun env Q Q' E E' hq he h => ha.mono env _ _ _ _ (fun rs q => ⟨q.1, q.2.1, q.2.2.1, mf _ _ _ _ _ hq he q.2.2.2⟩) he h⟩
  obtain ⟨T, F, env, hT, ok, h⟩ := h
  refine wpAny_Call_Name_kw
      (ld_glob I hg hm ?_ hdb)
  refine PySem.W.callWith_KW0 (h₀ := X.base) I.ok.mod.kin hk hall (thn (ha.pk.run pos pins s σ H (fun vs H1 => ∃ F1 rs, Grow g.st F H F1 H1 ∧ Ok g (T + ca) F1 env σ H1 ∧ RepRs g H F1 H1 env σ rs vs ∧ rs.length = ks.length ∧ (pm rs).length = ks.length ∧ (∀ r ∈ rs, argOk r) ∧ fn (pm rs) (okE g T ca F env σ H Q) (exE g T ca F env σ H W)) I ?_) fun ws s1 hh => ?_) hpl
  · exact ⟨T, F, env, hT, ok, ha.mono env _ _ _ _ (fun rs q F1 H1 vs w o rr => ⟨F1, rs, w, o, rr, q.1, q.2.1, q.2.2.1, q.2.2.2⟩) (fun x e => e) h⟩
  · obtain ⟨vs, H1, I1, rv, F1, rs, w, o, rr, hl, hl2, hv, q⟩ := hh
    rw [hks]
    have ar := argR_of hv rr
    have hvl := ar.length
    have ar2 := hb.arg hl (by rw [cy.k]; exact ar)
    refine ⟨I1.kIn, ?_⟩
    refine wpAny_call (codeAny_mono (Fn.run X.A X.stack s1 H1 ⟨[], ks.zip ws⟩ (pm ws) (pm vs) Q (WE W σ) hr I1.env0 (hb.to s1 ws (by rw [← rv.length, hvl, hl])) (hb.rel (by rw [hvl, hl]) rv) ?_) fun r s' hq => ?_)
    · rw [cy.k] at ar2 ⊢
      refine ⟨g.st, F1, pm rs, hl2, o.sto.any, o.fh, ar2, mf _ _ _ _ _ (fun r q F' H' v w2 s2 r2 => ?_) (fun x q F' H' d w2 s2 rx => ?_) q⟩
      · refine q F' H' v (w.trans w2) (o.grown w2 s2.any) ?_
        cases r with
        | val d => exact r2
        | sto => exact r2
        | bor ys => exact r2.elim
        | own ys =>
          obtain ⟨a, rfl, n1, n2, n3, n4⟩ := r2
          have oa : OwnAt g H1 F' H' a ys := ⟨n1, n2, n3, n4⟩
          exact ⟨a, rfl, oa.since w, o.notOwn n2⟩
      · exact q F' H' d (w.trans w2) (o.grown w2 s2.any) rx
    · cases r with
      | error e => exact L2N.passAt cy.tk σ pins H1 s1 e s' I1 hq
      | ok fl =>
        cases fl with
        | ret u => exact I1.after hq
        | next => exact False.elim hq
        | brk => exact False.elim hq
        | cont => exact False.elim hq
end
end DL
namespace DL
open PySem PySem.Spec L2
def strsOf : List D → Option (List Str)
  | [] => some []
  | .str s :: ds => (strsOf ds).map (s :: ·)
  | _ => none
theorem strsOf_map : ∀ (ss : List Str), strsOf (ss.map D.str) = some ss
  | [] => rfl
  | s :: ss => by simp only [List.map_cons, strsOf, strsOf_map ss, Option.map_some]
theorem strsOf_eq : ∀ {ds : List D} {ss : List Str}, strsOf ds = some ss → ds = ss.map D.str
  | [], _, h => by simp only [strsOf, Option.some.injEq] at h; subst h; rfl
  | d :: ds, _, h => by
    unfold strsOf at h
    split at h
    · rename_i e; cases e
    · rename_i s ds' e
      cases e
      cases e2 : strsOf ds with
      | none => rw [e2] at h; cases h
      | some ss =>
        rw [e2] at h
        simp only [Option.map_some, Option.some.injEq] at h
        subst h
        rw [strsOf_eq e2]
        rfl
    · cases h
section
variable {X : Cx} {g : G} {W : WX} {ca cb : Nat} {fa fb : ED} {a e : Expr} {pos apos : Pos}
def eJoin (fa fb : ED) : ED := fun env Q E => fa env (fun x => ∃ a, x = .val (.str a) ∧ frz fb env (fun y => ∃ ds ss, asSeq y = some ds ∧ strsOf ds = some ss ∧ (ss.map (·.length)).sum + ss.length * a.length ≤ LIM ∧ Q (.val (.str (Txt.join a ss)))) E) E
def eUpper (fa : ED) : ED := fun env Q E => fa env (fun x => ∃ a, x = .val (.str a) ∧ a.length ≤ LIM ∧ Q (.val (.str (Txt.upper a)))) E
theorem len_add (a b : Str) : (a ++ b).length = a.length + b.length := by
  show (a.cps ++ b.cps).size = a.cps.size + b.cps.size
  exact Array.size_append
theorem cutS_len (s : Str) (lo hi : Option Int) : (cutS s lo hi).length ≤ s.length := by
  show (cutS s lo hi).cps.size ≤ s.cps.size
  unfold cutS
  simp only [List.size_toArray, List.length_take, List.length_drop, Array.length_toList]
  omega
theorem cmul_r {i j : Int} (h1 : -(2 ^ 64) < j) (h2 : j < 2 ^ 64) : CMul i j := .inr ⟨h1, h2⟩
theorem cmul_l {i j : Int} (h1 : -(2 ^ 64) < i) (h2 : i < 2 ^ 64) : CMul i j := .inl ⟨h1, h2⟩
end
end DL
namespace DL
open PySem PySem.Spec L2
section
variable {env : En} {Q : RV → Prop} {E : Exc → Prop} {fa fb fc : ED} {ta tb : TD} {sa sb : SD} {A : DEn} {i j : Int} {n : Nat} {s t : Str} {b c : Bool} {d e : D} {xs ys ds : List D} {r x y : RV} {rs : List RV} {fs : AD} {B : Bool → Prop}
def varK (o : Option (Option SV)) (Q : RV → Prop) (_u : Fx Q := ()) : Prop := match o with
  | some (some (.val d)) => Q (.val d)
  | some (some (.own xs)) => Q (.bor xs)
  | some (some .sto) => Q .sto
  | _ => False
theorem W_var : eVar n env Q E = varK (env[n]?) Q := rfl
theorem W_var1 : varK (some (some (.val d))) Q = Q (.val d) := rfl
theorem W_var2 : varK (some (some (.own xs))) Q = Q (.bor xs) := rfl
theorem W_var3 : varK (some (some .sto)) Q = Q .sto := rfl
theorem W_c : eC d env Q E = Q (.val d) := rfl
def frzK (Q : RV → Prop) : RV → Prop := fun r => match r with | .own xs => Q (.val (.lst xs)) | r => Q r
theorem W_frz : frz fa env Q E = fa env (frzK Q) E := rfl
theorem W_frz1 : frzK Q (.val d) = Q (.val d) := rfl
theorem W_frz2 : frzK Q (.own xs) = Q (.val (.lst xs)) := rfl
theorem W_frz3 : frzK Q (.bor xs) = Q (.bor xs) := rfl
theorem W_frz4 : frzK Q .sto = Q .sto := rfl
theorem W_op {q : Q2} : eOp q fa fb env Q E = frz fa env (fun x => frz fb env (fun y => q x y Q) E) E := rfl
theorem W_call {q : QC} : eCall q fs env Q E = fs env (fun xs => q xs Q) E := rfl
theorem W_fn {fn : FD} : eFn n fn fs env Q E = fs env (fun rs => rs.length = n ∧ (∀ r ∈ rs, argOk r) ∧ app fn rs Q E) E := rfl
theorem W_fn0 {fn : FD} : eFn0 fn env Q E = app fn [] Q (fun _ => False) := rfl
theorem W_fnK {fn : FD} {pm : {α : Type} → List α → List α} : eFnK n pm fn fs env Q E = fs env (fun rs => rs.length = n ∧ (pm rs).length = n ∧ (∀ r ∈ rs, argOk r) ∧ app fn (pm rs) Q E) E := rfl
theorem W_nil {P : List RV → Prop} : aNil env P E = P [] := rfl
theorem W_cons {fr : AD} {P : List RV → Prop} : aCons fa fr env P E = frz fa env (fun x => fr env (fun xs => P (x :: xs)) E) E := rfl
theorem W_add1 : addQ (.val (.int i)) (.val (.int j)) Q = Q (.val (.int (i + j))) := rfl
theorem W_add2 : addQ (.val (.str s)) (.val (.str t)) Q = (s.length + t.length ≤ LIM ∧ Q (.val (.str (s ++ t)))) := rfl
theorem W_add3 : addQ (.val (.tup xs)) (.val (.tup ys)) Q = (xs.length + ys.length ≤ LIM ∧ Q (.val (.tup (xs ++ ys)))) := rfl
theorem W_add4 : addQ (.val (.lst xs)) (.val (.lst ys)) Q = (xs.length + ys.length ≤ LIM ∧ Q (.own (xs ++ ys))) := propext ⟨fun ⟨_, _, h1, h2, h3, h4⟩ => by cases h1; cases h2; exact ⟨h3, h4⟩, fun ⟨h3, h4⟩ => ⟨_, _, rfl, rfl, h3, h4⟩⟩
theorem W_add5 : addQ (.bor xs) (.val (.lst ys)) Q = (xs.length + ys.length ≤ LIM ∧ Q (.own (xs ++ ys))) := propext ⟨fun ⟨_, _, h1, h2, h3, h4⟩ => by cases h1; cases h2; exact ⟨h3, h4⟩, fun ⟨h3, h4⟩ => ⟨_, _, rfl, rfl, h3, h4⟩⟩
theorem W_add6 : addQ (.val (.lst xs)) (.bor ys) Q = (xs.length + ys.length ≤ LIM ∧ Q (.own (xs ++ ys))) := propext ⟨fun ⟨_, _, h1, h2, h3, h4⟩ => by cases h1; cases h2; exact ⟨h3, h4⟩, fun ⟨h3, h4⟩ => ⟨_, _, rfl, rfl, h3, h4⟩⟩
theorem W_add7 : addQ (.bor xs) (.bor ys) Q = (xs.length + ys.length ≤ LIM ∧ Q (.own (xs ++ ys))) := propext ⟨fun ⟨_, _, h1, h2, h3, h4⟩ => by cases h1; cases h2; exact ⟨h3, h4⟩, fun ⟨h3, h4⟩ => ⟨_, _, rfl, rfl, h3, h4⟩⟩
theorem W_int {C : Int → Int → Prop} {f : Int → Int → D} : intQ C f (.val (.int i)) (.val (.int j)) Q = (C i j ∧ Q (.val (f i j))) := rfl
theorem W_int0 {f : Int → Int → D} : int0Q f (.val (.int i)) (.val (.int j)) Q = Q (.val (f i j)) := rfl
theorem W_mul1 : mulQ (.val (.int i)) (.val (.int j)) Q = (CMul i j ∧ Q (.val (.int (i * j)))) := rfl
theorem W_mul2 : mulQ (.val (.str s)) (.val (.int i)) Q = ((0 ≤ i ∧ i ≤ 100000 ∧ s.length * i.toNat ≤ 100000) ∧ Q (.val (.str (repS s i.toNat)))) := rfl
theorem W_eq1 : eqlQ false (.val (.int i)) (.val (.int j)) Q = Q (.val (.bl (decide (i = j)))) := rfl
theorem W_eq2 : eqlQ false (.val (.str s)) (.val (.str t)) Q = Q (.val (.bl (decide (s = t)))) := rfl
theorem W_eq3 : eqlQ false (.val (.bl b)) (.val (.bl c)) Q = Q (.val (.bl (decide (b = c)))) := rfl
theorem W_eq4 : eqlQ false (.val .non) (.val .non) Q = Q (.val (.bl true)) := rfl
theorem W_ne1 : eqlQ true (.val (.int i)) (.val (.int j)) Q = Q (.val (.bl (!decide (i = j)))) := rfl
theorem W_ne2 : eqlQ true (.val (.str s)) (.val (.str t)) Q = Q (.val (.bl (!decide (s = t)))) := rfl
theorem W_ne3 : eqlQ true (.val (.bl b)) (.val (.bl c)) Q = Q (.val (.bl (!decide (b = c)))) := rfl
theorem W_in1 {k : Nat} : inlQ false (.val (.str ⟨#[k]⟩)) (.val (.str t)) Q = Q (.val (.bl (decide (k ∈ t.cps.toList)))) := propext ⟨fun ⟨_, h1, h2⟩ => by cases h1; exact h2, fun h => ⟨_, rfl, h⟩⟩
theorem W_in2 {k : Nat} : inlQ true (.val (.str ⟨#[k]⟩)) (.val (.str t)) Q = Q (.val (.bl (!decide (k ∈ t.cps.toList)))) := propext ⟨fun ⟨_, h1, h2⟩ => by cases h1; exact h2, fun h => ⟨_, rfl, h⟩⟩
def inK (neg : Bool) (d : D) (ds : List D) (Q : RV → Prop) (_u : Fx Q := ()) : Prop := ∃ v ws, flat d = some v ∧ flats ds = some ws ∧ Q (.val (.bl (if neg then !inV v ws else inV v ws)))
theorem W_in3 {g : Bool} : inlQ g (.val d) (.val (.lst ds)) Q = inK g d ds Q := propext ⟨fun ⟨_, v, _, ws, h1, h2, h3, h4, q⟩ => by cases h1; cases h3; exact ⟨v, ws, h2, h4, q⟩, fun ⟨v, ws, h2, h4, q⟩ => ⟨_, v, _, ws, rfl, h2, rfl, h4, q⟩⟩
theorem W_in4 {g : Bool} : inlQ g (.val d) (.val (.tup ds)) Q = inK g d ds Q := propext ⟨fun ⟨_, v, _, ws, h1, h2, h3, h4, q⟩ => by cases h1; cases h3; exact ⟨v, ws, h2, h4, q⟩, fun ⟨v, ws, h2, h4, q⟩ => ⟨_, v, _, ws, rfl, h2, rfl, h4, q⟩⟩
theorem W_in5 {g : Bool} : inlQ g (.val d) (.bor ds) Q = inK g d ds Q := propext ⟨fun ⟨_, v, _, ws, h1, h2, h3, h4, q⟩ => by cases h1; cases h3; exact ⟨v, ws, h2, h4, q⟩, fun ⟨v, ws, h2, h4, q⟩ => ⟨_, v, _, ws, rfl, h2, rfl, h4, q⟩⟩
theorem W_is1 : isNlQ false (.val d) (.val .non) Q = Q (.val (.bl (isNonD d))) := propext ⟨fun h => h.2, fun h => ⟨rfl, h⟩⟩
theorem W_is2 : isNlQ true (.val d) (.val .non) Q = Q (.val (.bl (!isNonD d))) := propext ⟨fun h => h.2, fun h => ⟨rfl, h⟩⟩
def atK (o : Option D) (Q : RV → Prop) (_u : Fx Q := ()) : Prop := ∃ d, o = some d ∧ Q (.val d)
theorem W_at : atK (some d) Q = Q (.val d) := propext ⟨fun ⟨_, h, q⟩ => by cases h; exact q, fun q => ⟨_, rfl, q⟩⟩
def atS (o : Option Nat) (Q : RV → Prop) (_u : Fx Q := ()) : Prop := ∃ c, o = some c ∧ Q (.val (.str ⟨#[c]⟩))
theorem W_atS {c : Nat} : atS (some c) Q = Q (.val (.str ⟨#[c]⟩)) := propext ⟨fun ⟨_, h, q⟩ => by cases h; exact q, fun q => ⟨_, rfl, q⟩⟩
theorem W_ix1 : ixQ (.val (.str s)) (.val (.int i)) Q = (s.length ≤ LIM ∧ atS (atI s.cps.toList i) Q) := propext ⟨fun ⟨_, h, c, h1, h2, q⟩ => by cases h; exact ⟨h1, c, h2, q⟩, fun ⟨h1, c, h2, q⟩ => ⟨_, rfl, c, h1, h2, q⟩⟩
theorem W_ix2 : ixQ (.val (.tup ds)) (.val (.int i)) Q = atK (atI ds i) Q := propext ⟨fun ⟨_, h, _, d, h1, h2, q⟩ => by cases h; cases h1; exact ⟨d, h2, q⟩, fun ⟨d, h2, q⟩ => ⟨_, rfl, _, d, rfl, h2, q⟩⟩
theorem W_ix3 : ixQ (.val (.lst ds)) (.val (.int i)) Q = atK (atI ds i) Q := propext ⟨fun ⟨_, h, _, d, h1, h2, q⟩ => by cases h; cases h1; exact ⟨d, h2, q⟩, fun ⟨d, h2, q⟩ => ⟨_, rfl, _, d, rfl, h2, q⟩⟩
theorem W_ix4 : ixQ (.bor ds) (.val (.int i)) Q = atK (atI ds i) Q := propext ⟨fun ⟨_, h, _, d, h1, h2, q⟩ => by cases h; cases h1; exact ⟨d, h2, q⟩, fun ⟨d, h2, q⟩ => ⟨_, rfl, _, d, rfl, h2, q⟩⟩
theorem W_sl {fl fh : OD} : eSlice fa fl fh env Q E = frz fa env (fun x => fl env (fun lo => fh env (fun hi => sliceQ x lo hi Q) E) E) E := rfl
theorem W_on {P : Option Int → Prop} : oNone env P E = P none := rfl
def partK (P : Option Int → Prop) : RV → Prop := fun r => match r with | .val (.int i) => P (some i) | _ => False
theorem W_os {P : Option Int → Prop} : oSome fa env P E = fa env (partK P) E := rfl
theorem W_part {P : Option Int → Prop} : partK P (.val (.int i)) = P (some i) := rfl
theorem W_sl1 {lo hi : Option Int} : sliceQ (.val (.str s)) lo hi Q = (s.length ≤ LIM ∧ Q (.val (.str (cutS s lo hi)))) := rfl
theorem W_sl2 {lo hi : Option Int} : sliceQ (.val (.tup ds)) lo hi Q = Q (.val (.tup (cutD ds lo hi))) := rfl
theorem W_sl3 {lo hi : Option Int} : sliceQ (.val (.lst ds)) lo hi Q = Q (.own (cutD ds lo hi)) := propext ⟨fun ⟨_, h1, q⟩ => by cases h1; exact q, fun q => ⟨_, rfl, q⟩⟩
theorem W_sl4 {lo hi : Option Int} : sliceQ (.bor ds) lo hi Q = Q (.own (cutD ds lo hi)) := propext ⟨fun ⟨_, h1, q⟩ => by cases h1; exact q, fun q => ⟨_, rfl, q⟩⟩
theorem W_len1 : lenQ [.val (.str s)] Q = (s.length ≤ LIM ∧ Q (.val (.int s.length))) := rfl
theorem W_len2 : lenQ [.val (.tup ds)] Q = Q (.val (.int ds.length)) := propext ⟨fun ⟨_, h1, q⟩ => by cases h1; exact q, fun q => ⟨_, rfl, q⟩⟩
theorem W_len3 : lenQ [.val (.lst ds)] Q = Q (.val (.int ds.length)) := propext ⟨fun ⟨_, h1, q⟩ => by cases h1; exact q, fun q => ⟨_, rfl, q⟩⟩
theorem W_len4 : lenQ [.bor ds] Q = Q (.val (.int ds.length)) := propext ⟨fun ⟨_, h1, q⟩ => by cases h1; exact q, fun q => ⟨_, rfl, q⟩⟩
theorem W_abs : absQ [.val (.int i)] Q = Q (.val (.int (if i < 0 then -i else i))) := rfl
theorem W_intf : intOfQ [.val (.int i)] Q = Q (.val (.int i)) := rfl
theorem W_strf : strOfQ [.val (.int i)] Q = (i.natAbs.log2 < 1920 ∧ Q (.val (.str (toString i)))) := rfl
theorem W_list1 : listOfQ [.val (.tup ds)] Q = Q (.own ds) := propext ⟨fun ⟨_, h1, q⟩ => by cases h1; exact q, fun q => ⟨_, rfl, q⟩⟩
theorem W_list2 : listOfQ [.val (.lst ds)] Q = Q (.own ds) := propext ⟨fun ⟨_, h1, q⟩ => by cases h1; exact q, fun q => ⟨_, rfl, q⟩⟩
theorem W_list3 : listOfQ [.bor ds] Q = Q (.own ds) := propext ⟨fun ⟨_, h1, q⟩ => by cases h1; exact q, fun q => ⟨_, rfl, q⟩⟩
theorem W_tup1 : tupOfQ [.val (.tup ds)] Q = Q (.val (.tup ds)) := propext ⟨fun ⟨_, h1, q⟩ => by cases h1; exact q, fun q => ⟨_, rfl, q⟩⟩
theorem W_tup2 : tupOfQ [.val (.lst ds)] Q = Q (.val (.tup ds)) := propext ⟨fun ⟨_, h1, q⟩ => by cases h1; exact q, fun q => ⟨_, rfl, q⟩⟩
theorem W_tup3 : tupOfQ [.bor ds] Q = Q (.val (.tup ds)) := propext ⟨fun ⟨_, h1, q⟩ => by cases h1; exact q, fun q => ⟨_, rfl, q⟩⟩
theorem W_max : max2Q [.val (.int i), .val (.int j)] Q = Q (.val (.int (if j > i then j else i))) := rfl
theorem W_min : min2Q [.val (.int i), .val (.int j)] Q = Q (.val (.int (if j < i then j else i))) := rfl
def allK (any : Bool) (o : Option (List Bool)) (Q : RV → Prop) (_u : Fx Q := ()) : Prop := ∃ bs, o = some bs ∧ Q (.val (.bl (if any then bs.any id else bs.all id)))
theorem W_allK {bs : List Bool} : allK b (some bs) Q = Q (.val (.bl (if b then bs.any id else bs.all id))) := propext ⟨fun ⟨_, h, q⟩ => by cases h; exact q, fun q => ⟨_, rfl, q⟩⟩
theorem W_all1 : allQ b [.val (.lst ds)] Q = allK b (bools ds) Q := propext ⟨fun ⟨_, bs, h1, h2, q⟩ => by cases h1; exact ⟨bs, h2, q⟩, fun ⟨bs, h2, q⟩ => ⟨_, bs, rfl, h2, q⟩⟩
def isiK (d : D) (n : String) (Q : RV → Prop) (_u : Fx Q := ()) : Prop := ∃ t b, tyName d = some t ∧ kitB t n = some b ∧ Q (.val (.bl b))
theorem W_isi1 {n : String} : isiQ [.val d, .val (.ty n)] Q = isiK d n Q := propext ⟨fun ⟨_, t, b, h1, h2, h3, q⟩ => by cases h1; exact ⟨t, b, h2, h3, q⟩, fun ⟨t, b, h2, h3, q⟩ => ⟨_, t, b, rfl, h2, h3, q⟩⟩
theorem W_isi2 {n : String} : isiQ [.bor ds, .val (.ty n)] Q = isiK (.lst ds) n Q := propext ⟨fun ⟨_, t, b, h1, h2, h3, q⟩ => by cases h1; exact ⟨t, b, h2, h3, q⟩, fun ⟨t, b, h2, h3, q⟩ => ⟨_, t, b, rfl, h2, h3, q⟩⟩
theorem isiK_of {n t : String} (h1 : tyName d = some t) (h2 : kitB t n = some b) : isiK d n Q = Q (.val (.bl b)) := propext ⟨fun ⟨t', b', h3, h4, q⟩ => by rw [h1] at h3; cases h3; rw [h2] at h4; cases h4; exact q, fun q => ⟨t, b, h1, h2, q⟩⟩
theorem W_k_ns : isiK .non "str" Q = Q (.val (.bl false)) := isiK_of rfl (by decide +kernel)
theorem W_k_bs : isiK (.bl b) "str" Q = Q (.val (.bl false)) := isiK_of rfl (by decide +kernel)
theorem W_k_is : isiK (.int i) "str" Q = Q (.val (.bl false)) := isiK_of rfl (by decide +kernel)
theorem W_k_ss : isiK (.str s) "str" Q = Q (.val (.bl true)) := isiK_of rfl (by decide +kernel)
theorem W_k_ts : isiK (.tup ds) "str" Q = Q (.val (.bl false)) := isiK_of rfl (by decide +kernel)
theorem W_k_ls : isiK (.lst ds) "str" Q = Q (.val (.bl false)) := isiK_of rfl (by decide +kernel)
theorem W_k_nb : isiK .non "bool" Q = Q (.val (.bl false)) := isiK_of rfl (by decide +kernel)
theorem W_k_bb : isiK (.bl b) "bool" Q = Q (.val (.bl true)) := isiK_of rfl (by decide +kernel)
theorem W_k_ib : isiK (.int i) "bool" Q = Q (.val (.bl false)) := isiK_of rfl (by decide +kernel)
theorem W_k_sb : isiK (.str s) "bool" Q = Q (.val (.bl false)) := isiK_of rfl (by decide +kernel)
theorem W_k_tb : isiK (.tup ds) "bool" Q = Q (.val (.bl false)) := isiK_of rfl (by decide +kernel)
theorem W_k_lb : isiK (.lst ds) "bool" Q = Q (.val (.bl false)) := isiK_of rfl (by decide +kernel)
theorem W_k_ni : isiK .non "int" Q = Q (.val (.bl false)) := isiK_of rfl (by decide +kernel)
theorem W_k_bi : isiK (.bl b) "int" Q = Q (.val (.bl true)) := isiK_of rfl (by decide +kernel)
theorem W_k_ii : isiK (.int i) "int" Q = Q (.val (.bl true)) := isiK_of rfl (by decide +kernel)
theorem W_k_si : isiK (.str s) "int" Q = Q (.val (.bl false)) := isiK_of rfl (by decide +kernel)
theorem W_k_ti : isiK (.tup ds) "int" Q = Q (.val (.bl false)) := isiK_of rfl (by decide +kernel)
theorem W_k_li : isiK (.lst ds) "int" Q = Q (.val (.bl false)) := isiK_of rfl (by decide +kernel)
theorem W_k_nt : isiK .non "tuple" Q = Q (.val (.bl false)) := isiK_of rfl (by decide +kernel)
theorem W_k_bt : isiK (.bl b) "tuple" Q = Q (.val (.bl false)) := isiK_of rfl (by decide +kernel)
theorem W_k_it : isiK (.int i) "tuple" Q = Q (.val (.bl false)) := isiK_of rfl (by decide +kernel)
theorem W_k_st : isiK (.str s) "tuple" Q = Q (.val (.bl false)) := isiK_of rfl (by decide +kernel)
theorem W_k_tt : isiK (.tup ds) "tuple" Q = Q (.val (.bl true)) := isiK_of rfl (by decide +kernel)
theorem W_k_lt : isiK (.lst ds) "tuple" Q = Q (.val (.bl false)) := isiK_of rfl (by decide +kernel)
theorem W_k_nl : isiK .non "list" Q = Q (.val (.bl false)) := isiK_of rfl (by decide +kernel)
theorem W_k_bl : isiK (.bl b) "list" Q = Q (.val (.bl false)) := isiK_of rfl (by decide +kernel)
theorem W_k_il : isiK (.int i) "list" Q = Q (.val (.bl false)) := isiK_of rfl (by decide +kernel)
theorem W_k_sl : isiK (.str s) "list" Q = Q (.val (.bl false)) := isiK_of rfl (by decide +kernel)
theorem W_k_tl : isiK (.tup ds) "list" Q = Q (.val (.bl false)) := isiK_of rfl (by decide +kernel)
theorem W_k_ll : isiK (.lst ds) "list" Q = Q (.val (.bl true)) := isiK_of rfl (by decide +kernel)
def valsK (o : Option (List D)) (P : List D → Prop) (_u : Fx P := ()) : Prop := ∃ ds, o = some ds ∧ ds.length ≤ LIM ∧ P ds
theorem W_valsK {P : List D → Prop} : valsK (some ds) P = (ds.length ≤ LIM ∧ P ds) := propext ⟨fun ⟨_, h, q⟩ => by cases h; exact q, fun q => ⟨_, rfl, q⟩⟩
theorem W_etup : eTup fs env Q E = fs env (fun rs => valsK (vals rs) (fun ds => Q (.val (.tup ds)))) E := rfl
theorem W_elst : eLst fs env Q E = fs env (fun rs => valsK (vals rs) (fun ds => Q (.own ds))) E := rfl
theorem W_vals0 : vals [] = some [] := rfl
theorem W_vals1 : vals (.val d :: rs) = (vals rs).map (d :: ·) := rfl
def boolK (B : Bool → Prop) : RV → Prop := fun r => match r with | .val (.bl b) => B b | _ => False
theorem W_bool : tBool fa env B E = fa env (boolK B) E := rfl
theorem W_bool1 : boolK B (.val (.bl b)) = B b := rfl
theorem W_tand : tAndD ta tb env B E = ta env (fun b => if b = true then tb env B E else B false) E := rfl
theorem W_tor : tOrD ta tb env B E = ta env (fun b => if b = true then B true else tb env B E) E := rfl
theorem W_tnot : tNotD ta env B E = ta env (fun b => B (!b)) E := rfl
theorem W_tru : tTruD fa env B E = frz fa env (fun x => truQ x B) E := rfl
theorem W_tru1 : truQ (.val (.bl b)) B = B b := rfl
theorem W_tru2 : truQ (.val .non) B = B false := rfl
theorem W_tru3 : truQ (.val (.int i)) B = B (i != 0) := rfl
theorem W_tru4 : truQ (.val (.str s)) B = (s.length ≤ LIM ∧ B ((s.length : Int) != 0)) := rfl
theorem W_tru5 : truQ (.val (.tup ds)) B = B (!ds.isEmpty) := propext ⟨fun ⟨_, h1, q⟩ => by cases h1; exact q, fun q => ⟨_, rfl, q⟩⟩
theorem W_tru6 : truQ (.val (.lst ds)) B = B (!ds.isEmpty) := propext ⟨fun ⟨_, h1, q⟩ => by cases h1; exact q, fun q => ⟨_, rfl, q⟩⟩
theorem W_tru7 : truQ (.bor ds) B = B (!ds.isEmpty) := propext ⟨fun ⟨_, h1, q⟩ => by cases h1; exact q, fun q => ⟨_, rfl, q⟩⟩
def boK (P : Bool → Prop) : RV → Prop := fun r => match r with | .val (.bl b) => P b | _ => False
theorem W_bo {P : Bool → Prop} : boK P (.val (.bl b)) = P b := rfl
theorem W_eand : eAnd fa fb env Q E = fa env (boK fun b => if b = true then fb env Q E else Q (.val (.bl false))) E := rfl
theorem W_eor : eOr fa fb env Q E = fa env (boK fun b => if b = true then Q (.val (.bl true)) else fb env Q E) E := rfl
theorem W_enot : eNot fa env Q E = fa env (boK fun b => Q (.val (.bl (!b)))) E := rfl
def inK1 (P : Int → Prop) : RV → Prop := fun r => match r with | .val (.int i) => P i | _ => False
theorem W_ink {P : Int → Prop} : inK1 P (.val (.int i)) = P i := rfl
theorem W_eneg : eNeg fa env Q E = fa env (inK1 fun i => Q (.val (.int (-i)))) E := rfl
theorem W_snil : sNil A env = A.nx env := rfl
theorem W_seq : sSeq sa sb A env = sa { A with nx := sb A } env := rfl
def asgK (i : Nat) (env : En) (P : En → Prop) : RV → Prop := fun r => ∃ s, toSV r = some s ∧ P (env.set i (some s))
theorem W_asg : sAsg n fa A env = fa env (asgK n env A.nx) (A.ex env) := rfl
theorem W_asg1 {P : En → Prop} : asgK n env P (.val d) = P (env.set n (some (.val d))) := propext ⟨fun ⟨_, h, q⟩ => by cases h; exact q, fun q => ⟨_, rfl, q⟩⟩
theorem W_asg2 {P : En → Prop} : asgK n env P (.own xs) = P (env.set n (some (.own xs))) := propext ⟨fun ⟨_, h, q⟩ => by cases h; exact q, fun q => ⟨_, rfl, q⟩⟩
theorem W_asg3 {P : En → Prop} : asgK n env P .sto = P (env.set n (some .sto)) := propext ⟨fun ⟨_, h, q⟩ => by cases h; exact q, fun q => ⟨_, rfl, q⟩⟩
theorem W_ret : sRet fa A env = fa env (fun r => A.rt (hand r)) (A.ex env) := rfl
theorem W_hand1 : hand (.val d) = .val d := rfl
theorem W_hand2 : hand (.own xs) = .own xs := rfl
theorem W_hand3 : hand (.bor xs) = .own xs := rfl
theorem W_hand4 : hand .sto = .sto := rfl
theorem W_expr : sExpr fa A env = fa env (fun _ => A.nx env) (A.ex env) := rfl
theorem W_if : sIf ta sa sb A env = ta env (fun b => if b = true then sa A env else sb A env) (A.ex env) := rfl
def forG (bd : BD) (fb : SD) (A : DEn) (items : List D) (env : En) (_u : Fx (bd, fb, A) := ()) : Prop := forW bd fb A items env
def lcG (bd : BD) (ft : TD) (fe : ED) (env : En) (P : List D → Prop) (items acc : List D) (_u : Fx (bd, ft, fe, P) := ()) : Prop := lcW bd ft fe env P items acc
theorem W_for {fi : ID} {bd : BD} {fb : SD} : sFor fi bd fb A env = fi env (fun items => items.length ≤ NN ∧ forG bd fb A items env) (A.ex env) := rfl
theorem W_any {P : List D → Prop} : iAnyD fa env P E = frz fa env (fun x => itemsQ x P) E := rfl
theorem W_it1 {P : List D → Prop} : itemsQ (.val (.lst ds)) P = P ds := rfl
theorem W_it2 {P : List D → Prop} : itemsQ (.val (.tup ds)) P = P ds := rfl
theorem W_it3 {P : List D → Prop} : itemsQ (.val (.str s)) P = P (signsD s) := rfl
theorem W_rg1 {P : List D → Prop} : iRange1 (aCons fa aNil) env P E = frz fa env (inK1 fun n => n ≤ 100000 ∧ -100000 ≤ n ∧ P (rangeD 0 n.toNat)) E := by
  show frz fa env (fun x => ∃ n, [x] = [.val (.int n)] ∧ n ≤ 100000 ∧ -100000 ≤ n ∧ P (rangeD 0 n.toNat)) E = _
  congr 1
  funext r
  apply propext
  constructor
  · rintro ⟨n, h1, h2⟩
    cases h1
    exact h2
  · intro h
    unfold inK1 at h
    split at h
    · exact ⟨_, rfl, h⟩
    · exact h.elim
theorem W_lc {fi : ID} {bd : BD} {ft : TD} {fe : ED} {vs : List Nat} : eLc fi bd ft fe vs env Q E = fi env (fun items => items.length ≤ NN ∧ lcG bd ft fe (wipeE env vs) (fun acc => Q (.own acc)) items []) E := rfl
theorem W_bn {P : En → Prop} : bName n d env P = P (env.set n (some (.val d))) := rfl
theorem W_yes : tYesD env B E = B true := rfl
def ownK (o : Option (Option SV)) (P : List D → Prop) (_u : Fx P := ()) : Prop := ∃ xs, o = some (some (.own xs)) ∧ P xs
theorem W_ownK {P : List D → Prop} : ownK (some (some (.own xs))) P = P xs := propext ⟨fun ⟨_, h, q⟩ => by cases h; exact q, fun q => ⟨_, rfl, q⟩⟩
theorem W_mut {q : QM} : sMut n q fs A env = ownK (env[n]?) (fun xs => fs env (fun rs => q rs xs (fun ys => A.nx (env.set n (some (.own ys))))) (A.ex env)) := rfl
theorem W_app {P : List D → Prop} : appQ [.val d] xs P = (xs.length < LIM ∧ P (xs ++ [d])) := rfl
theorem W_ins {P : List D → Prop} : insQ [.val (.int i), .val d] xs P = (xs.length < LIM ∧ 0 ≤ i ∧ i < 2 ^ 63 ∧ P (xs.take i.toNat ++ [d] ++ xs.drop i.toNat)) := rfl
def setK (o : Option Nat) (P : Nat → Prop) (_u : Fx P := ()) : Prop := ∃ j, o = some j ∧ P j
theorem W_setK {P : Nat → Prop} : setK (some n) P = P n := propext ⟨fun ⟨_, h, q⟩ => by cases h; exact q, fun q => ⟨_, rfl, q⟩⟩
def stK (xs : List D) (P : List D → Prop) (r k : RV) : Prop := ∃ d j n, r = .val d ∧ k = .val (.int n) ∧ ixN xs.length n = some j ∧ P (xs.set j d)
theorem W_stK {P : List D → Prop} : stK xs P (.val d) (.val (.int i)) = setK (ixN xs.length i) (fun j => P (xs.set j d)) := propext ⟨fun ⟨_, j, _, h1, h2, h3, q⟩ => by cases h1; cases h2; exact ⟨j, h3, q⟩, fun ⟨j, h, q⟩ => ⟨_, j, _, rfl, rfl, h, q⟩⟩
theorem W_setIx {fk fe : ED} : sSetIx n fk fe A env = ownK (env[n]?) (fun xs => frz fe env (fun r => frz fk env (fun k => stK xs (fun ys => A.nx (env.set n (some (.own ys)))) r k) (A.ex env)) (A.ex env)) := rfl
def strK (P : Str → Prop) : RV → Prop := fun r => ∃ a, r = .val (.str a) ∧ P a
theorem W_strK {P : Str → Prop} : strK P (.val (.str s)) = P s := propext ⟨fun ⟨_, h, q⟩ => by cases h; exact q, fun q => ⟨_, rfl, q⟩⟩
theorem W_upper : eUpper fa env Q E = fa env (strK fun a => a.length ≤ LIM ∧ Q (.val (.str (Txt.upper a)))) E := rfl
theorem W_join1 : eJoin fa fb env Q E = fa env (strK fun a => frz fb env (fun y => ∃ ds ss, asSeq y = some ds ∧ strsOf ds = some ss ∧ (ss.map (·.length)).sum + ss.length * a.length ≤ LIM ∧ Q (.val (.str (Txt.join a ss)))) E) E := rfl
theorem W_start : startE n rs = rs.map slotOf ++ List.replicate (n - rs.length) none := rfl
theorem W_slot1 : slotOf (.val d) = some (.val d) := rfl
theorem W_slot2 : slotOf .sto = some .sto := rfl
theorem W_arg1 : argOk (.val d) = True := rfl
theorem W_arg2 : argOk .sto = True := rfl
theorem take_of {n : Int} (hn : n < 1073741824) (h : ∀ r : Int, 0 ≤ r → (n < 2 → r = 0) → (2 ≤ n → r < n) → Q (.val (.int r))) : app takeF [.sto, .val (.int n)] Q E := ⟨n, rfl, hn, h⟩
end
end DL
namespace DL
open PySem PySem.Spec L2
theorem atS_mem {l : List Nat} {i : Int} {Q : RV → Prop} (h0 : 0 ≤ i) (h1 : i < l.length) (h : ∀ c ∈ l, Q (.val (.str ⟨#[c]⟩))) : atS (atI l i) Q := by
  have e : atI l i = some l[i.toNat] := by
    have q := atI_nat (xs := l) (j := i.toNat) (v := l[i.toNat]) (List.getElem?_eq_getElem (by omega))
    rwa [Int.toNat_of_nonneg h0] at q
  exact ⟨_, e, h _ (List.getElem_mem _)⟩
theorem atK_mem {l : List D} {i : Int} {Q : RV → Prop} (h0 : 0 ≤ i) (h1 : i < l.length) (h : ∀ c ∈ l, Q (.val c)) : atK (atI l i) Q := by
  have e : atI l i = some l[i.toNat] := by
    have q := atI_nat (xs := l) (j := i.toNat) (v := l[i.toNat]) (List.getElem?_eq_getElem (by omega))
    rwa [Int.toNat_of_nonneg h0] at q
  exact ⟨_, e, h _ (List.getElem_mem _)⟩
theorem atK_at {l : List D} {j : Nat} {d : D} {Q : RV → Prop} (e : l[j]? = some d) (h : Q (.val d)) : atK (atI l (j : Int)) Q := ⟨d, atI_nat e, h⟩
theorem chars_len (s : Str) : s.cps.toList.length = s.length := Array.length_toList
theorem str_of_list {s : Str} {l : List Nat} (h : s.cps.toList = l) : s = ⟨l.toArray⟩ := by
  cases s with
  | mk a =>
    simp only at h
    rw [← h]
theorem one_len (c : Nat) : (⟨#[c]⟩ : Str).length = 1 := rfl
theorem app_list (a b : Str) : (a ++ b).cps.toList = a.cps.toList ++ b.cps.toList := by
  show (a.cps ++ b.cps).toList = _
  exact Array.toList_append
theorem mem_range {lo : Int} {n : Nat} {d : D} (h : d ∈ rangeD lo n) : ∃ i : Nat, i < n ∧ d = .int (lo + (i : Nat)) := by
  unfold rangeD at h
  rw [List.mem_map] at h
  obtain ⟨i, h1, rfl⟩ := h
  exact ⟨i, List.mem_range.mp h1, rfl⟩
theorem range_len {lo : Int} {n : Nat} : (rangeD lo n).length = n := by unfold rangeD; rw [List.length_map, List.length_range]
theorem range_at {lo : Int} {n i : Nat} {d : D} (h : (rangeD lo n)[i]? = some d) : i < n ∧ d = .int (lo + (i : Nat)) := by
  have hi : i < n := by
    have := (List.getElem?_eq_some_iff.mp h).1
    rwa [range_len] at this
  unfold rangeD at h
  rw [List.getElem?_map, List.getElem?_range hi] at h
  exact ⟨hi, (Option.some.inj h).symm⟩
theorem cut_mem {s : Str} {lo hi : Option Int} {c : Nat} (h : c ∈ (cutS s lo hi).cps.toList) : c ∈ s.cps.toList := by
  unfold cutS at h
  exact List.mem_of_mem_drop (List.mem_of_mem_take (by simpa using h))
end DL
namespace DL
open PySem PySem.Spec L2
theorem iteB {b : Bool} {A B : Prop} (h1 : b = true → A) (h2 : b = false → B) : if b = true then A else B := by
  cases b
  · exact h2 rfl
  · exact h1 rfl
theorem nn_of {n : Nat} (h : n ≤ 1000) : n ≤ NN := h
theorem lim_of {n : Nat} (h : n ≤ 100000) : n ≤ LIM := h
end DL
namespace DL
open PySem PySem.Spec L2
section
variable {X : Cx} {g : G} {W : WX} {T ca cb : Nat} {F H : Hp} {env : En} {σ : St} {sa sb : SD} {s : Stmt} {ss : List Stmt} {t u : TS}
theorem Ok.freezeVar {i : Nat} {xs : List D} (k : Ok g T F env σ H) (hi : env[i]? = some (some (.own xs))) : ∃ F', Ex F F' ∧ Ok g T F' (env.set i (some (.val (.lst xs)))) σ H := by
  obtain ⟨a, hσ, o⟩ := k.own i xs hi
  have hs := o
  obtain ⟨n1, n2, n3, vs, n4, n5⟩ := o
  have ef : Ex F (upd F a (.lst vs)) := Evl.Ex.new n3
  have eh : Ex (upd F a (.lst vs)) H := fun b x q => by
    by_cases z : b = a
    · subst z
      rw [upd_same] at q
      cases q
      exact n4
    · rw [upd_ne z] at q
      exact k.fh b x q
  have hlt : i < env.length := (List.getElem?_eq_some_iff.mp hi).1
  have get : ∀ {j : Nat} {z : SV}, (env.set i (some (.val (.lst xs))))[j]? = some (some z) → (j = i ∧ z = .val (.lst xs)) ∨ (j ≠ i ∧ env[j]? = some (some z)) := by
    intro j z e
    by_cases c : i = j
    · subst c
      rw [List.getElem?_set_self hlt] at e
      cases e
      exact .inl ⟨rfl, rfl⟩
    · rw [List.getElem?_set_ne c] at e
      exact .inr ⟨fun z => c z.symm, e⟩
  refine ⟨upd F a (.lst vs), ef, ⟨⟨k.grow.ff.trans ef, eh, k.grow.hh, fun b q r => by
    have ne : b ≠ a := fun z => r (by rw [z]; exact n2)
    rw [upd_ne ne]
    exact k.grow.nf b q r, by
    rw [upd_ne n1.symm]
    exact k.grow.sf⟩, k.sto.to ef rfl (by rw [upd_ne n1.symm]; exact k.sto.free), by rw [List.length_set]; exact k.len, fun j d e => ?_, fun j e => ?_, fun j ys e => ?_, fun j l ys zs ne e1 e2 => ?_⟩⟩
  · rcases get e with ⟨rfl, z⟩ | ⟨ne, e⟩
    · cases z
      refine ⟨_, hσ, ?_⟩
      simp only [Rep]
      exact ⟨a, vs, rfl, upd_same, n5.mono ef⟩
    · obtain ⟨v, h1, h2⟩ := k.val j d e
      exact ⟨v, h1, h2.mono ef⟩
  · rcases get e with ⟨_, z⟩ | ⟨ne, e⟩
    · cases z
    · exact k.stor j e
  · rcases get e with ⟨_, z⟩ | ⟨ne, e⟩
    · cases z
    · obtain ⟨b, e1, e2⟩ := k.own j ys e
      have nb : b ≠ a := fun z => k.dis j i ys xs ne e hi (by rw [e1, hσ, z])
      obtain ⟨vs', e3, e4⟩ := e2.at'
      exact ⟨b, e1, e2.ns, e2.new, by rw [upd_ne nb]; exact e2.nf, vs', e3, e4.mono ef⟩
  · rcases get e1 with ⟨_, z⟩ | ⟨_, e1⟩
    · cases z
    · rcases get e2 with ⟨_, z⟩ | ⟨_, e2⟩
      · cases z
      · exact k.dis j l ys zs ne e1 e2
def sFrz (i : Nat) (f : SD) : SD := fun A env => ∃ xs, env[i]? = some (some (.own xs)) ∧ f A (env.set i (some (.val (.lst xs))))
theorem W_sFrz {A : DEn} {i : Nat} : sFrz i sa A env = ownK (env[i]?) (fun xs => sa A (env.set i (some (.val (.lst xs))))) := rfl
def tDP (g : G) (W : WX) (c : Nat) (f : SD) (u : TS) : TS := fun D σ H => tDS g W c f { D with nx := u D } σ H
structure DP (X : Cx) (g : G) (W : WX) (c : Nat) (st : List Stmt) (f : SD) (u : TS) : Prop where
  ps : PSs X st (tDP g W c f u)
  mono : MonoS f
theorem dp_one {rest : List Stmt} (ha : DS X g W ca s sa) (hu : PSs X rest u) : DP X g W ca (s :: rest) sa u := ⟨pss_cons ha.ps hu, ha.mono⟩
def tEx {α : Type} (p : α → Prop) (t : α → TS) : TS := fun D σ H => ∃ a, p a ∧ t a D σ H
theorem pss_ex {α : Type} {p : α → Prop} {t : α → TS} (h : ∀ a, p a → PSs X ss (t a)) : PSs X ss (tEx p t) :=
  ⟨fun pins s σ H D I ⟨a, pa, q⟩ => (h a pa).run pins s σ H D I q⟩
theorem inv_frz {pins : List (Addr × Obj)} {s : Shared} {c : Addr} {xs : List V} (I : Inv X pins σ H s) (hc : H c = some (.lst xs)) : ∃ o, Inv X pins σ (upd H c (.frz o (.lst xs))) s := by
  obtain ⟨z, its, n, r, e⟩ := I.hok c _ hc
  refine ⟨{ cls := .type "list", data := .seq its.toArray n }, I.ok, I.os, I.bare, ⟨I.base.keep, I.base.slot, fun b o q h0 hx => ?_, I.base.there, fun b xs q => ?_, fun b o u q => ?_, fun b ps q => ?_⟩, I.loc, I.cell, ?_, fun x k q => ?_, fun p hp => ?_, ?_, I.len⟩
  · have f := I.base.free b o q h0 hx
    by_cases h : b = c
    · subst h; rw [hc] at f; cases f
    · rw [upd_ne h]; exact f
  · have f := I.base.tups b xs q
    by_cases h : b = c
    · subst h; rw [hc] at f; cases f
    · rw [upd_ne h]; exact f
  · have f := I.base.frzs b o u q
    by_cases h : b = c
    · subst h; rw [hc] at f; cases f
    · rw [upd_ne h]; exact f
  · obtain ⟨m, f⟩ := I.base.tbls b ps q
    by_cases h : b = c
    · subst h; rw [hc] at f; cases f
    · exact ⟨m, by rw [upd_ne h]; exact f⟩
  · have f := I.free
    rw [upd_ne fun h => by rw [h, hc] at f; cases f]
    exact f
  · have f := I.freeC x k q
    rw [upd_ne fun h => by rw [h, hc] at f; cases f]
    exact f
  · obtain ⟨f1, f2, f3⟩ := I.pin p hp
    refine ⟨f1, ?_, f3⟩
    rw [upd_ne fun h => by rw [h, hc] at f2; cases f2]
    exact f2
  · intro b u q
    have st : ∀ {u : HO}, ObjOk X.prog X.w H s.heap b u → ObjOk X.prog X.w (upd H c (.frz { cls := .type "list", data := .seq its.toArray n } (.lst xs))) s.heap b u := fun x => x.stay (fun _ _ _ k => k) (fun k q => by
      have h : k ≠ c := fun h => by rw [h, hc] at q; cases q
      rw [upd_ne h]; exact q) fun k ys q => by
      have h : k ≠ c := fun h => by rw [h, hc] at q; cases q
      rw [upd_ne h]; exact q
    by_cases h : b = c
    · subst h
      rw [upd_same] at q
      cases q
      exact ⟨e, st (I.hok b _ hc)⟩
    · rw [upd_ne h] at q
      exact st (I.hok b u q)
theorem pss_frz (h : PSs X ss t) : PSs X ss (fun D σ H => ∃ c xs, H c = some (.lst xs) ∧ ∀ o, t D σ (upd H c (.frz o (.lst xs)))) := ⟨fun pins s σ H D I ⟨c, xs, hc, q⟩ => by
  obtain ⟨o, I'⟩ := inv_frz I hc
  exact h.run pins s σ _ D I' (q o)⟩
end
end DL
namespace DL
open PySem PySem.Spec L2
section
variable {X : Cx} {g : G} {W : WX} {ca : Nat} {fa : ED} {a : Expr} {pos p : Pos}
def strbQ : QC := fun rs Q => match rs with
  | [.val (.bl b)] => Q (.val (.str (if b then "True" else "False")))
  | _ => False
theorem W_strb {Q : RV → Prop} {b : Bool} : strbQ [.val (.bl b)] Q = Q (.val (.str (if b then "True" else "False"))) := rfl
end
end DL
namespace DL
open PySem PySem.Spec L2
def but (st : Addr) (H : Hp) : Hp := fun b => if b = st then none else H b
theorem but_st {st : Addr} {H : Hp} : but st H st = none := by unfold but; rw [if_pos rfl]
theorem but_ne {st b : Addr} {H : Hp} (h : b ≠ st) : but st H b = H b := by unfold but; rw [if_neg h]
theorem but_ex {st : Addr} {H : Hp} : Evl.Ex (but st H) H := fun b x q => by
  by_cases h : b = st
  · rw [h, but_st] at q; cases q
  · rwa [but_ne h] at q
theorem Ok.up0 {g : G} {T T' : Nat} {F H : Hp} {env : En} {σ : St} (h : Ok g T F env σ H) : Ok g T' F env σ H := ⟨h.grow, h.sto.any, h.len, h.val, h.stor, h.own, h.dis⟩
end DL
namespace L2N
open PySem PySem.Spec PyProof.Rows L2
theorem pmkN {X : Cx} {CX : CXT} {x : Str} {e : Expr} {es : List Expr} {ta : TA} {p pos : Pos} {C fI : Addr} {k : Nat} {fd : FuncData} {ps : List Str} {sp : Sp}
    (T : OexC X.K C) (iC : PySem.W.findIn X.K (.ref C) "__init__" = some (some (.ref fI)))
    (tI : PySem.W.typeIn X.K (.ref fI) = some (.type "function"))
    (F1 : FnOk X.prog X.w X.K X.mg X.base CX k fI fd ps sp) (hr : Room (k + 1) X.A)
    (hb : Binds X.K fd ps []) (hx : Passes CX X (fun _ _ _ => False))
    (hg : Gl X x) (hm : X.mg x = some (.ref C)) (ha : PA X (e :: es) ta)
    (hdb : (x == ("__debug__" : Str)) = false := by decide)
    (he : starEach (e :: es) X.env = (false, eval e X.env) :: starEach es X.env := by rfl)
    (hpl : (backTo pos (starEach es X.env)).any (·.1) = false := by rfl) :
    PMk X (.Call (.Name x p) (e :: es) [] pos) (tMkO C sp [] ta) := by
  intro pins s σ H Q I h
  obtain ⟨nm, q, N, bs, bm, sn, sub, ab, col, dd, k0, k1, k2, k3, k5, hC, hbm⟩ := T.cls
  refine wpAny_Call_Name_kw
      (ld_glob I hg hm ?_ hdb)
  refine PySem.W.callWith_K (h₀ := X.base) I.ok.mod.kin T.kC
    (thn (ha.run pos pins s σ H _ I h) fun us s1 ⟨vs, H1, I1, r1, hz, q1⟩ => ⟨I1.kIn, ?_⟩) he hpl
  show wpAny _ _ (call (.ref C) us) _ _ _
  obtain ⟨hp, g, dr, tk, os⟩ := s1
  generalize ea : hp.objs.size + 1 = a
  have hsz : hp.objs.size ≤ a := by rw [← ea]; exact Nat.le_succ _
  have hq := q1 a (I1.hok.fresh hsz)
  rw [List.append_nil] at hq
  generalize hB : (hp.push (PySem.W.kdv_tup us)).push (PySem.HandSPX.excO C hp.objs.size) = B
  have kk : ∀ b o, hp.get? b = some o → B.get? b = some o := fun b o z => by
    rw [← hB]
    exact Heap.get?_push_of_some _ (Heap.get?_push_of_some _ z)
  have hget : B.get? a = some (PySem.HandSPX.excO C hp.objs.size) := by
    rw [← hB, ← ea]
    heap_get
  have I2 : Inv X pins σ (upd H1 a (exo a C none)) ⟨B, g, dr, tk, os⟩ := I1.laid (t' := tk) kk hsz (exo_ok hget)
  have r2 : Vals (V.ref a :: vs) (Value.ref a :: us) := .cons rfl r1
  have hl : (Value.ref a :: us ++ []).length = ps.length := by
    rw [List.append_nil, ← F1.len _ _ _ _ hq]
    exact r2.length.symm
  have hus : us.length ≤ sizeLine := by rw [← Paired.length r1, sizeLine_eq]; omega
  have b2 := hb ⟨B, g, dr, tk, os⟩ (Value.ref a :: us) I2.kIn hl
  rw [List.append_nil] at b2
  have run := F1.run _ X.stack ⟨B, g, dr, tk, os⟩ _ ⟨Value.ref a :: us, []⟩ _ _ _ (fun _ _ _ => False) (hr.make C us []) (I2.env0.make C us []) b2 r2 hq
  subst ea
  subst hB
  refine wpAny_call (PySem.HandSPX.call_own F.excBase_ValueError (fun Y => PySem.HandSPX.refsVE_contains Y bm hbm) (I1.kIn _ _ hC)
    (PySem.W.looks_findIn I1.kIn iC) (fun self => PySem.W.bind_fn I1.kIn self tI) hus (codeAny_mono run fun r s' hq' => ?_))
  cases r with
  | error er =>
    exact hx pins σ _ _ er s' I2 hq'
  | ok fl =>
    cases fl with
    | next => exact hq'.elim
    | brk => exact hq'.elim
    | cont => exact hq'.elim
    | ret u =>
      obtain ⟨v, H2, os2, bare2, un2, hok2, rv, ev, d, fs, e1, e2, hd1, q2⟩ := hq'
      subst ev
      obtain ⟨h2, g2, d2, t2, os'⟩ := s'
      obtain ⟨t0, G, J, kG, ge, hoe, na⟩ := mk_end0 (d2 := d2) (t2 := t2) I1 hsz kk un2 hok2 os2 bare2 e1 e2 hd1
      refine ⟨rv, _, _, _, ⟨G, g2, d2, t2, os'⟩, _, .ref C, some d, rfl, J, kG, ge, hoe, ⟨rfl, rfl, fun vs z => ?_⟩, rfl, rfl, na, rfl, bare2, raises_own T.exC T.tyC, q2⟩
      cases z
      rfl
end L2N
namespace DL
open PySem PySem.Spec L2
def spInit (K : PySem.W.Frag) (C : Addr) (f : Str) : Sp := fun vs H Q _ => ∃ (a : Addr) (v : V), vs = [.ref a, v] ∧ H a = some (exo a C none) ∧ OexC K C ∧ PySem.W.findIn K (.ref C) f = some none ∧
  ∀ dx, H dx = none → dx ≠ a → Q .non (upd (upd H dx (exd dx [(f, v)])) a (exo a C (some dx)))
structure EX (P : Program) (w : World) (K : PySem.W.Frag) (mg : Str → Option Value) (base : Heap) (x f : Str) (C : Addr) : Prop where
  T : OexC K C
  hno : PySem.W.findIn K (.ref C) f = some none
  gC : mg x = some (.ref C)
  ex : ∃ (fI : Addr) (fd : FuncData) (ps : List Str), PySem.W.findIn K (.ref C) "__init__" = some (some (.ref fI)) ∧ PySem.W.typeIn K (.ref fI) = some (.type "function") ∧ FnOk P w K mg base (L2N.CX P w) 1 fI fd ps (spInit K C f) ∧ L2.Binds K fd ps []
theorem passesN (X : Cx) : Passes (L2N.CX X.prog X.w) X (fun _ _ _ => False) := passesF X
section
variable {X : Cx} {g : G} {W : WX} {ca : Nat} {fa : ED} {e : Expr} {p pos pos' : Pos} {x f : Str} {C : Addr}
def sRaise (C : Addr) (f : Str) (fa : ED) : SD := fun A env => frz fa env (fun r => match r with | .val d => A.ex env ⟨C, [f], [d]⟩ | _ => False) (A.ex env)
theorem del_upd {H1 : Hp} {a dx : Addr} {o1 o2 o3 u : HO} (na : H1 a = none) (nd : dx ≠ a) : upd (del (upd (upd (upd H1 a o1) dx o2) a o3) a) dx u = upd H1 dx u := by
  funext b
  by_cases h : b = dx
  · subst h
    rw [upd_same, upd_same]
  · rw [upd_ne h, upd_ne h]
    by_cases h2 : b = a
    · subst h2
      rw [del_same, na]
    · rw [del_ne h2, upd_ne h2, upd_ne h, upd_ne h2]
theorem ds_raise (cy : Cy X g W) (E : EX X.prog X.w X.K X.mg X.base x f C) (hr : Room 2 X.A) (hg : Gl X x) (ha : DE X g W ca e fa) (hdb : (x == ("__debug__" : Str)) = false := by decide)
    (he : starEach [e] X.env = (false, eval e X.env) :: starEach [] X.env := by rfl) (hpl : (backTo pos (starEach [] X.env)).any (·.1) = false := by rfl) (hc : X.calm = true := by rfl) :
    DS X g W ca (.Raise (some (.Call (.Name x p) [e] [] pos)) none pos') (sRaise C f fa) := by
  obtain ⟨fI, fd, ps, i1, i2, i3, i4⟩ := E.ex
  refine ⟨PSimp (L2N.ps_raise hc cy.tk (L2N.pmkN E.T i1 i2 i3 hr i4 (passesN X) hg E.gC (pa_cons ha.frz.pe pa_nil he) hdb he hpl)) fun D σ H ⟨T, F, env, hT, ok, h⟩ => ?_, fun A B env l h => ha.frz.mono env _ _ _ _ (fun r q => ?_) (fun y q => l.ex _ _ q) h⟩
  · refine run_e ok hT ha.frz.mono h (fun r q F1 H1 v w o rr => ?_) (exE.of ok (Nat.le_refl _) rfl)
    split at q
    · rename_i d
      refine ⟨(show 1 ≤ 1000 by decide), fun a na => ⟨a, v, rfl, upd_same, E.T, E.hno, fun dx n1 n2 => ⟨rfl, dx, [(f, v)], upd_same, by rw [upd_ne n2, upd_same], by rwa [upd_ne n2] at n1, ?_⟩⟩⟩
      rw [upd_ne n2] at n1
      rw [del_upd na n2]
      exact q _ σ _ (some dx) (w.ff.trans (Evl.Ex.new (Evl.fresh_back o.fh n1))) (o.newF n1) (.inr ⟨dx, [v], rfl, upd_same, rfl, repL_cons.mpr ⟨v, [], rfl, Rep.mono (Evl.Ex.new (Evl.fresh_back o.fh n1)) rr, repL_nil.mpr rfl⟩⟩)
    · exact q.elim
  · split at q
    · exact l.ex _ _ q
    · exact q.elim
end
end DL
namespace DL
open PySem PySem.Spec L2
section
variable {X : Cx} {g : G} {W : WX} {ca : Nat} {fa : ED} {T T' : Nat} {F F' H H' : Hp} {env : En} {σ σ' : St}
open PyProof.Rows in
def G.at (g : G) (F : Hp) : G := ⟨g.K, g.st, F, g.H0⟩
theorem Ok.rise (o : Ok g T F env σ H) (o' : Ok g T' F' env σ' H') (e : Ex F F') : Ok (g.at F) T' F' env σ' H' :=
  ⟨⟨e, o'.grow.fh, o'.grow.hh, fun b n h => by
    have n0 : g.F0 b = none := Evl.fresh_back o.grow.ff n
    exact o'.grow.nf b n0 h, o'.grow.sf⟩, o'.sto, o'.len, o'.val, o'.stor, fun i xs q => by
    obtain ⟨a, h1, h2⟩ := o'.own i xs q
    exact ⟨a, h1, h2.ns, h2.new, h2.nf, h2.at'⟩, o'.dis⟩
theorem Ok.sink {env0 : En} {σ0 : St} {T0 : Nat} (o : Ok g T0 F env0 σ0 H) (o' : Ok (g.at F) T F' env σ H') : Ok g T F' env σ H' :=
  ⟨⟨o.grow.ff.trans o'.grow.ff, o'.grow.fh, o'.grow.hh, fun b n h => o'.grow.nf b (o.grow.nf b n h) h, o'.grow.sf⟩, o'.sto, o'.len, o'.val, o'.stor, fun i xs q => by
    obtain ⟨a, h1, h2⟩ := o'.own i xs q
    exact ⟨a, h1, h2.ns, h2.new, h2.nf, h2.at'⟩, o'.dis⟩
end
end DL
namespace DL
open PySem PySem.Spec L2 PyProof.Rows
structure FnHp (P : Program) (w : World) (K : PySem.W.Frag) (mg : Str → Option Value) (base : Heap) (CX : CXT) (k : Nat) (f : Addr) (fd : FuncData) (ps : List Str) (sp : Sp) (p : Addr × Obj) : Prop where
  len : ∀ vs H Q E, sp vs H Q E → vs.length = ps.length
  run : ∀ (A : Around) (outer : List PySem.Env) (s : Shared) (H : Hp) (args : Args) (us : List Value) (vs : List V) (Q : VK) (E : XK), L2H.RoomH k A → L2H.Hot1 A p → L2H.PinOk outer H s p →
    Env0 P w K mg base A outer s H → BindsTo s fd args (ps.zip us) → Vals vs us → sp vs H Q E → codeAny (model P w) A (.call (.ref f) args) (CR CX outer P w H s Q E) s
theorem fn_hp {P : Program} {w : World} {K : PySem.W.Frag} {mg : Str → Option Value} {base : Heap} {CX : CXT} {x qual : Str} {st : Stmt} {f : Addr} {fd : FuncData} {N ps : List Str} {k : Nat} {sp : Sp} {p : Addr × Obj}
    (Fn : Fun K x qual st f fd) (S : FnScope N ps (defScope st)) (len : ∀ vs H Q E, sp vs H Q E → vs.length = ps.length)
    (hb : ∀ (cdv : Value) (A : Around) (outer : List PySem.Env) (s : Shared) (H : Hp) (vs : List V) (Q : VK) (E : XK), L2H.Hot1 A p → L2H.RoomH k (A.deeper (envOfC qual (defScope st) s.heap.objs.size f cdv)) → sp vs H Q E →
      ∃ t, PSs (L2H.cxH CX P w K mg base N qual (defScope st) f cdv A outer s H E p) (defBody st) t ∧ t { nx := fun _ H' => Q .non H', rt := Q } (L2.start N vs) H) :
    FnHp P w K mg base CX (k + 1) f fd ps sp p := by
  obtain ⟨oc, od, kV, doc, pm, an, cdv, ct, osl, rfl, lk, hcd⟩ := Fn.ex
  refine ⟨len, fun A outer s H args us vs Q E hr hot pin e0 bd r h => ?_⟩
  have hl := len _ _ _ _ h
  have inK : K.In s.heap := e0.mod.kin.keeps fun b o z => (e0.bs b o z).1
  have cells : ∀ y ∈ ps.zip us, (defScope st).names.lookup y.1 = some .local ∨ ((defScope st).names.lookup y.1 = some .cell ∧ ((cellsFrom (s.heap.objs.size + 1) (defScope st).names []).lookup y.1).isSome = true) := by
    rintro ⟨n, v⟩ hy
    rcases S.par n (List.of_mem_zip hy).1 with q | q
    · exact Or.inl q
    · exact Or.inr ⟨q, PySem.W.cellsFrom_some _ _ _ (Or.inl q)⟩
  refine codeAny_call_function hr.depth (inK _ _ lk) rfl S.co S.gen rfl (PySem.W.codeRec_of inK hcd) (bd _ _ _ _ ?_)
  refine wpAny_newFunctionEnv_cells S.kind cells fun env ee s1 c => ?_
  subst ee
  refine ⟨(e0.mod.nolimit.keeps fun b o z => (e0.bs b o z).1).keeps c.toInCall.keep, codeAny_func ?_⟩
  obtain ⟨t, ht, q⟩ := hb cdv A outer s H vs Q E hot (hr.deeper _) h
  have J0 := L2H.inv_startH (CX := CX) (E := E) S pin e0 hl r c
  refine wpAny_mono (ht.run [] s1 (L2.start N vs) H _ J0 q) (fun fl s' z => ?_) fun _ _ z => z
  have done : ∀ {σ' : L2.St} {H' : Hp} {v : V} {u : Value}, Inv (L2H.cxH CX P w K mg base N qual (defScope st) f cdv A outer s H E p) [] σ' H' s' → RelV v u → Q v H' → CE outer P w H s Q u s' :=
    fun {σ' H' v u} J rv q => ⟨v, H', J.os, J.bare, J.base, J.hok, rv, q⟩
  cases fl with
  | ret u =>
    obtain ⟨v, σ', H', J, rv, q⟩ := z
    exact done J rv q
  | next =>
    obtain ⟨σ', H', J, q⟩ := z
    exact done (v := V.non) (u := Value.none) J rfl q
  | brk =>
    obtain ⟨_, _, _, q⟩ := z
    exact q.elim
  | cont =>
    obtain ⟨_, _, _, q⟩ := z
    exact q.elim
section
variable {X : Cx} {CX : CXT} {k : Nat} {f : Addr} {fd : FuncData} {ps : List Str} {sp : Sp} {E : L2.St → XK} {x : Str} {q pos : Pos} {e : Expr} {es : List Expr} {t : TA} {p : Addr × Obj}
theorem pe_callHp (F : FnHp X.prog X.w X.K X.mg X.base CX k f fd ps sp p) (hr : L2H.RoomH k X.A) (hot : L2H.Hot1 X.A p) (hp : p ∈ X.pn) (hg : Gl X x) (hm : X.mg x = some (.ref f)) (hk : PySem.W.keepIn X.K (.ref f) = true) (hb : L2.Binds X.K fd ps []) (hx : ∀ σ, PassesAt CX X σ (E σ))
    (ha : PA X (e :: es) t) (hdb : (x == ("__debug__" : Str)) = false := by decide) (he : starEach (e :: es) X.env =
        (false, eval e X.env) :: starEach es X.env := by rfl) (hpl : (backTo pos (starEach es X.env)).any (·.1) = false := by rfl) :
    PE X (.Call (.Name x q)
        (e :: es) [] pos) (tCallS sp E t) := by
  refine ⟨fun pins s σ H Q I h => ?_⟩
  refine wpAny_Call_Name_kw
      (ld_glob I hg hm ?_ hdb)
  refine PySem.W.callWith_K (h₀ := X.base) I.ok.mod.kin hk
    (thn (ha.run pos pins s σ H _ I h) fun us s1 ⟨vs, H1, I1, r, q⟩ => ⟨I1.kIn, ?_⟩) he hpl
  have hl : us.length = ps.length := by rw [← r.length]; exact F.len _ _ _ _ q
  have b := hb s1 us I1.kIn (by rw [List.append_nil]; exact hl)
  rw [List.append_nil] at b
  have P1 := I1.pin p (List.mem_append_left _ hp)
  have pin : L2H.PinOk X.stack H1 s1 p := ⟨P1.1, P1.2.1, fun hm => (List.mem_cons.mp (I1.stkSub p.1 hm)).elim P1.2.2.1 P1.2.2.2.1, P1.2.2.2.2⟩
  refine wpAny_call (codeAny_mono (F.run X.A X.stack s1 H1 ⟨us, []⟩ us vs Q (E σ) hr hot pin I1.env0 b r q) fun r s' hq => ?_)
  cases r with
  | error er => exact hx σ pins H1 s1 er s' I1 hq
  | ok fl =>
    cases fl with
    | ret u => exact I1.after hq
    | next => exact hq.elim
    | brk => exact hq.elim
    | cont => exact hq.elim
end
end DL
namespace DL
open PySem PySem.Spec L2
structure ErrC (K : PySem.W.Frag) (C : Addr) : Prop where
  cl : (PySem.W.clsIn K C).isSome = true
  ga : PySem.W.findIn K (.ref C) "__getattribute__" = some
      (some (.builtin "BaseException.__getattribute__"))
  gg : PySem.W.findIn K
      (.ref C) "__getattr__" = some none
  ex : PySem.W.subIn K (.ref C) (.type "BaseException") = some true
  hd : PySem.W.hasDictIn K C = true
  ca : PySem.W.findIn K (.ref C) "__class__" = some
      (some (.builtin "object.__class__"))
  cg : PySem.W.specialIn K (.builtin "object.__class__") "__get__" = some (some (.builtin "getset_descriptor.__get__"))
  tk : PySem.W.takesIn K (.builtin "object.__class__") = some true
  ob : PySem.W.mroIn K C (.type "object") = some true
structure ErrO (oe : Obj) (C : Addr) (d : Option Addr) : Prop where
  z : Zc (.ref C) d oe
  f : ∃ vs, oe.data = .fields vs
def DictOk (H : Hp) : Option Addr → Prop
  | none => True
  | some dd => ∃ fs, H dd = some (.xd fs)
section
variable {X : Cx} {a C : Addr} {oe : Obj} {d : Option Addr} {e : Expr} {te : TE} {pos : Pos} {n : Str}
theorem inst_err {pins : List (Addr × Obj)} {σ : L2.St} {H : Hp} {s : Shared} (O : ErrO oe C d) (hp : (a, oe) ∈ X.pn) (I : Inv X pins σ H s) (hd : DictOk H d) :
    ∃ od, PySem.W.InstAt s.heap a oe C od ∧ ∀ dd fs, d = some dd → H dd = some (.xd fs) → ∃ (o : Obj) (mA : Str → Option Value), od = some o ∧ (∀ f, RelO (fs.lookup f) (mA f)) ∧ ∀ f, PySem.W.lookIn f o = some (mA f) := by
  obtain ⟨hget, _⟩ := I.pin (a, oe) (List.mem_append_left _ hp)
  obtain ⟨vs, hv⟩ := O.f
  have no : PySem.W.notCls oe = true := by unfold PySem.W.notCls; rw [hv]
  cases d with
  | none =>
    refine ⟨none, ⟨hget, O.z.1, no, ?_⟩, fun dd fs z => nomatch z⟩
    rw [O.z.2]
    exact trivial
  | some dd =>
    obtain ⟨fs, hx⟩ := hd
    have hx2 : ObjOk X.prog X.w H s.heap dd (.xd fs) := I.hok dd _ hx
    obtain ⟨mA, hns, hr⟩ := hx2
    obtain ⟨od, ho, hl⟩ := lookIn_ns hns
    refine ⟨some od, ⟨hget, O.z.1, no, ?_⟩, fun dd' fs' z1 z2 => ?_⟩
    · rw [O.z.2]
      exact ho
    · cases z1
      rw [hx] at z2
      cases z2
      exact ⟨od, mA, rfl, hr, hl⟩
def rIsP (K : PySem.W.Frag) (C a : Addr) (d : Option Addr) : List V → Hp → VK → Prop := fun xs H Q => ∃ (c : V) (cv : Value) (b : Bool), xs = [.ref a, c] ∧ (∀ u, RelV c u → u = cv) ∧ PySem.W.kitOne K (.ref C) cv = some b ∧ DictOk H d ∧ Q (.bl b) H
theorem call_isP (E : ErrC X.K C) (O : ErrO oe C d) (hp : (a, oe) ∈ X.pn) : CallR X (.builtin "isinstance") (rIsP X.K C a d) := by
  intro pins s σ H xs us Q I r h
  obtain ⟨c, cv, b, rfl, hcv, e, hd, q⟩ := h
  cases r with
  | cons rx rr =>
    cases rr with
    | cons rt rr =>
      cases rr
      cases rx
      have ec := hcv _ rt
      subst ec
      obtain ⟨od, J, _⟩ := inst_err O hp I hd
      exact PySem.W.kia_one (PySem.W.kitx_exc E.cl E.ga E.gg E.ex E.ca E.cg E.tk E.ob) I.kIn J e (fun z => nomatch z) fun tk => ⟨.bl b, H, I.kept (t' := tk) fun _ _ z => z, rfl, q⟩
def tErr (a : Addr) (d : Option Addr) (n : Str) (te : TE) : TE := fun σ H Q => te σ H fun x H1 => x = .ref a ∧ ∃ (dd : Addr) (fs : List (Str × V)) (v : V), d = some dd ∧ H1 dd = some (.xd fs) ∧ fs.lookup n = some v ∧ Q v H1
theorem pe_err (E : ErrC X.K C) (O : ErrO oe C d) (hp : (a, oe) ∈ X.pn) (hno : PySem.W.findIn X.K (.ref C) n = some none) (he : PE X e te) (hb : attributeBase e n X.env (eval e X.env) = eval e X.env := by rfl) :
    PE X (.Attribute e n pos) (tErr a d n te) := by
  refine ⟨fun pins s σ H Q I h => ?_⟩
  refine attr_of hb (thn (he.run pins s σ H _ I h) fun u s1 ⟨x, H1, I1, rx, ex, dd, fs, v, ed, ea, l, q⟩ => ?_)
  subst ex
  obtain rfl : u = Value.ref a := rx
  obtain ⟨od, J, hl⟩ := inst_err O hp I1 (d := d) (by rw [ed]; exact ⟨fs, ea⟩)
  obtain ⟨o, mA, rfl, hr, hk⟩ := hl dd fs ed ea
  obtain ⟨u, hu, ru⟩ := RelO.some_of (v
      := v) (o := mA n) (by rw [← l]; exact hr n)
  exact HandSPX.exc_get I1.kIn J E.ga E.gg E.ex (PySem.W.findObj_own E.hd hno rfl (by rw [hk, hu])) (handed_of ru) ⟨v, H1, I1.tok _, ru, q⟩
end
end DL
namespace DL
open PySem PySem.Spec L2
section
variable {X : Cx} {g : G} {W : WX} {ca : Nat} {fa : ED} {a : Addr} {x : Exc} {oe : Obj} {d : Option Addr} {e : Expr} {pos p : Pos} {n : Str}
theorem repX_ok {K : PySem.W.Frag} {F F' H : Hp} (r : RepX K F x d) (e : Ex F F') (f : Ex F' H) : DictOk H d := by
  rcases r with ⟨_, _, rfl⟩ | ⟨dd, vs, rfl, h, _⟩
  · exact trivial
  · exact ⟨_, f _ _ (e _ _ h)⟩
theorem zip_lookup {K : PySem.W.Frag} {F : Hp} {dv : D} : ∀ {ns : List Str} {xs : List D} {vs : List V}, RepL K F xs vs → (ns.zip xs).lookup n = some dv → ∃ v, (ns.zip vs).lookup n = some v ∧ Rep K F dv v
  | [], _, _, _, h => by simp at h
  | m :: ns, [], _, _, h => by simp at h
  | m :: ns, y :: xs, vs, r, h => by
    simp only [RepL] at r
    obtain ⟨v, w, rfl, r1, r2⟩ := r
    simp only [List.zip_cons_cons, List.lookup_cons] at h ⊢
    split at h
    · rename_i z
      cases h
      exact ⟨v, rfl, r1⟩
    · exact zip_lookup r2 h
def errKit (K : PySem.W.Frag) (C : Addr) (d : D) : Option Bool := match d with
  | .cls B => PySem.W.kitOne K (.ref C) (.ref B)
  | .ty n => PySem.W.kitOne K (.ref C) (.type n)
  | _ => none
def isPQ (K : PySem.W.Frag) (C a : Addr) : QC := fun rs Q => ∃ c b, rs = [.val (.cls a), .val c] ∧ errKit K C c = some b ∧ Q (.val (.bl b))
theorem mono_isPQ {K : PySem.W.Frag} {C : Addr} : MonoC (isPQ K C a) := fun xs Q Q' hq ⟨c, b, h1, h2, h3⟩ => ⟨c, b, h1, h2, hq _ h3⟩
theorem d_isP (hX : RepX g.K g.F0 x d) : CallD g (rIsP g.K x.C a d) (isPQ g.K x.C a) := by
  intro T F env σ H Hs xs vs Q Qv ok rs q k
  obtain ⟨c, b, rfl, hk, q⟩ := q
  obtain ⟨v1, w1, rfl, r1, v2, w2, rfl, r2, e⟩ := rs
  have e' : w2 = [] := e
  subst e'
  simp only [RepR, Rep] at r1
  subst r1
  have dk := repX_ok hX ok.grow.ff ok.fh
  cases c with
  | cls B =>
    simp only [RepR, Rep] at r2
    subst r2
    exact ⟨.ref B, .ref B, b, rfl, fun u z => z, hk, dk, k _ F H _ q ok.refl ok (by simp only [RepR, Rep])⟩
  | ty n =>
    simp only [RepR, Rep] at r2
    subst r2
    exact ⟨.ty n, .type n, b, rfl, fun u z => z, hk, dk, k _ F H _ q ok.refl ok (by simp only [RepR, Rep])⟩
  | _ => cases hk
def eErr (a : Addr) (dv : D) (fa : ED) : ED := fun env Q E => fa env (fun r => r = .val (.cls a) ∧ Q (.val dv)) E
theorem de_err {dv : D} (cy : Cy X g W) (E : ErrC X.K x.C) (O : ErrO oe x.C d) (hp : (a, oe) ∈ X.pn) (hno : PySem.W.findIn X.K (.ref x.C) n = some none) (hX : RepX g.K g.F0 x d) (hl : (x.ns.zip x.xs).lookup n = some dv)
    (ha : DE X g W ca e fa) (hb : attributeBase e n X.env (eval e X.env) = eval e X.env := by rfl) : DE X g W ca (.Attribute e n pos) (eErr a dv fa) := by
  refine ⟨PEimp (pe_err E O hp hno ha.pe hb) fun σ H Q ⟨T, F, env, hT, ok, h⟩ => ?_, fun env Q Q' E E' hq he h => ha.mono env _ _ _ _ (fun r q => ⟨q.1, hq _ q.2⟩) he h⟩
  refine run_e ok (by omega) ha.mono h (fun r hx F1 H1 v w o rr => ?_) (exE.shift ok.refl (by omega))
  obtain ⟨rfl, q⟩ := hx
  simp only [RepR, Rep] at rr
  subst rr
  refine ⟨rfl, ?_⟩
  rcases hX with ⟨e1, _, _⟩ | ⟨dd, vs, rfl, h1, _, h3⟩
  · rw [e1] at hl
    simp at hl
  · obtain ⟨v, l1, l2⟩ := zip_lookup h3 hl
    refine ⟨dd, _, v, rfl, o.fh _ _ (o.grow.ff _ _ h1), l1, q F1 H1 v w o ?_⟩
    simp only [RepR]
    exact Rep.mono o.grow.ff l2
end
end DL
namespace DL
open PySem PySem.Spec L2
section
variable {X : Cx} {g : G} {W : WX} {cb cs : Nat} {body suite : List Stmt} {b₀ : Stmt} {fb : SD} {fs : Addr → Exc → SD} {x n : Str} {c : Value} {i : Nat} {np pos pos' : Pos}
theorem Grow.sink {st : Addr} {F0 H0 F1 H1 F2 H2 : Hp} (w : Grow st F0 H0 F1 H1) (v : Grow st F1 H0 F2 H2) : Grow st F0 H0 F2 H2 :=
  ⟨w.ff.trans v.ff, v.fh, v.hh, fun b p q => v.nf b (w.nf b p q) q, v.sf⟩
def endsTry (i : Nat) (A : DEn) : DEn := ⟨fun e => A.nx (e.set i none), A.rt, fun e => A.bk (e.set i none), fun e => A.ct (e.set i none), fun _ _ => False⟩
def sTry (hk : Addr → Option Bool) (i : Nat) (fb : SD) (fs : Addr → Exc → SD) : SD := fun A env =>
  fb { A with ex := fun env' z => (hk z.C = some true ∧ ∀ a, fs a z (endsTry i A) (env'.set i (some (.val (.cls a))))) ∨ (hk z.C = some false ∧ A.ex env' z) } env
theorem ds_try (cy : Cy X g W) (hs : X.stack = X.env :: X.outer) (hf : X.env.frame = some X.env.locals) (hN : X.N.Nodup) (hi : X.N[i]? = some n) (hln : X.env.kindOf n = some .local) (hc : Names X x c)
    (hb : ∀ (W' : WX) (pn : List (Addr × Obj)) (xe : Value → Shared → Prop), Cy (X.tr pn xe) g W' → DSs (X.tr pn xe) g W' cb body fb)
    (hsu : ∀ (a : Addr) (oe : Obj) (z : Exc) (d : Option Addr) (pn : List (Addr × Obj)) (g2 : G), g2.K = g.K → RepX g2.K g2.F0 z d → L2N.Zn (.ref z.C) d oe → (∃ vs, oe.data = .fields vs) →
      Cy (X.suite a ((a, oe) :: pn)) g2 W0 → DSs (X.suite a ((a, oe) :: pn)) g2 W0 cs (b₀ :: suite) (fs a z))
    (hm : ∀ a z, MonoS (fs a z)) :
    DS X g W (cb + cs) (.Try body [.ExceptHandler (some (.Name x np)) (some n) (b₀ :: suite) pos'] [] [] pos) (sTry (fun C => PySem.W.exmOne X.K (.ref C) c) i fb fs) := by
  have mb : MonoS fb := (hb W X.pn X.xe cy).mono
  refine ⟨PSimp (L2N.ps_try_as hs hf hN hi hln hc cy.tk (tb := fun W' => tDS g W' cb fb) (ts := fun a cls d D σ H => ∃ (z : Exc) (g2 : G), cls = .ref z.C ∧ g2.K = g.K ∧ RepX g2.K g2.F0 z d ∧ tDS g2 W0 cs (fs a z) D σ H)
    (fun W' pn xe tk po => (hb W' pn xe ⟨cy.k, tk, cy.un, po⟩).ps)
    (fun a oe cls d pn hz hv => ⟨fun pins s σ H D I ⟨z, g2, e1, e2, e3, q⟩ => ?_⟩)) fun D σ H ⟨T, F, env, hT, ok, h⟩ => ?_, fun A B env l h => ?_⟩
  · subst e1
    exact (hsu a oe z d pn g2 e2 e3 hz hv ⟨cy.k.trans e2.symm, fun u s' ⟨_, _, _, _, _, _, _, _, _, _, _, _, _, _, _, _, w⟩ => w.elim, cy.un, PassesOwn.never⟩).ps.run pins s σ H D I q
  · unfold sTry at h
    refine ⟨T, F, env, Nat.le_refl _, ok, mb _ _ _ ?_ h⟩
    refine ⟨fun e q F' σ' H' e' o => q F' σ' H' e' o.up0, fun r q F' H' v w s rr => q F' H' v w s.any rr, fun e q F' σ' H' e' o => q F' σ' H' e' o.up0, fun e q F' σ' H' e' o => q F' σ' H' e' o.up0, fun env' z q F' σ' H' d e' o rx => ?_⟩
    rcases q with ⟨hk, q⟩ | ⟨hk, q⟩
    · refine ⟨true, hk, fun _ a na => ⟨z, g.at F', rfl, rfl, rx, ?_⟩, ?_⟩
      rotate_left
      · exact fun z => nomatch z
      have o2 : Ok g 0 F' (env'.set i (some (.val (.cls a)))) (σ'.set i (some (.ref a))) H' := (o.setR (r := .val (.cls a)) (v := .ref a) i rfl (by simp only [RepR, Rep]) o.newOf).up0
      have o3 : Ok (g.at F') 0 F' (env'.set i (some (.val (.cls a)))) (σ'.set i (some (.ref a))) H' := o2.rise o2 (Evl.Ex.refl F')
      refine ⟨0, F', _, Nat.le_refl _, o3, hm a z _ _ _ ?_ (q a)⟩
      have clr : ∀ {e : En} {F2 H2 : Hp} {σ2 : L2.St} {T2 T3 : Nat}, Ok (g.at F') T2 F2 e σ2 H2 → Ok g T3 F2 (e.set i none) (σ2.set i none) H2 := fun {e F2 H2 σ2 T2 T3} k => ((o2.sink k).wipe [i]).up0
      exact ⟨fun e q F2 σ2 H2 e2 k => q F2 _ H2 (e'.trans e2) (clr k), fun r q F2 H2 v w s rr => q F2 H2 v (o.grow.sink w) s.any rr, fun e q F2 σ2 H2 e2 k => q F2 _ H2 (e'.trans e2) (clr k), fun e q F2 σ2 H2 e2 k => q F2 _ H2 (e'.trans e2) (clr k), fun e z q => q.elim⟩
    · refine ⟨false, hk, ?_, fun _ => q F' σ' H' d e' o.up0 rx⟩
      exact fun z => nomatch z
  · unfold sTry at h ⊢
    refine mb _ _ _ ?_ h
    refine ⟨l.nx, l.rt, l.bk, l.ct, fun env' z q => ?_⟩
    rcases q with ⟨hk, q⟩ | ⟨hk, q⟩
    · exact .inl ⟨hk, fun a => hm a z (endsTry i A) (endsTry i B) _ ⟨fun e q => l.nx _ q, l.rt, fun e q => l.bk _ q, fun e q => l.ct _ q, fun e z q => q⟩ (q a)⟩
    · exact .inr ⟨hk, l.ex _ _ q⟩
end
end DL
namespace DL
open PySem PySem.Spec L2
def spX (K : PySem.W.Frag) (z : Exc) (d : Option Addr) (n : Nat) (f : FD) : Sp := fun vs H Q E => ∃ st F rs, rs.length = n ∧ StoreAt K st 0 F H ∧ Ex F H ∧ RepX K F z d ∧ ArgR K st F rs vs ∧
  f rs (fun r => ∀ F' H' v, Grow st F H F' H' → StoreAt K st 0 F' H' → RetR K st H F' H' r v → Q v H') (fun x => ∀ F' H' d, Grow st F H F' H' → StoreAt K st 0 F' H' → RepX K F' x d → E (.ref x.C) d H')
theorem RepX.mono {K : PySem.W.Frag} {F F' : Hp} {z : Exc} {d : Option Addr} (e : Ex F F') (h : RepX K F z d) : RepX K F' z d := by
  rcases h with h | ⟨dd, vs, h1, h2, h3, h4⟩
  · exact .inl h
  · exact .inr ⟨dd, vs, h1, e _ _ h2, h3, h4.mono e⟩
open PyProof.Rows in
theorem fn_okHp {P : Program} {w : World} {K : PySem.W.Frag} {mg : Str → Option Value} {base : Heap} {x qual : Str} {st : Stmt} {f : Addr} {fd : FuncData} {N ps : List Str} {k : Nat} {fn : FD} {pe : Addr × Obj} {z : Exc} {d : Option Addr} (Fn : Fun K x qual st f fd) (S : FnScope N ps (defScope st)) (hn : ps.length ≤ N.length)
    (hb : ∀ (cdv : Value) (A : Around) (outer : List PySem.Env) (s : Shared) (H : Hp) (E : XK) (g : G), g.K = K → RepX g.K g.F0 z d → L2H.Hot1 A pe → L2H.RoomH k (A.deeper (envOfC qual (defScope st) s.heap.objs.size f cdv)) →
      Cy (L2H.cxH (L2N.CX P w) P w K mg base N qual (defScope st) f cdv A outer s H E pe) g (fun cls d _ H => E cls d H) →
      ∃ c fb, DSs (L2H.cxH (L2N.CX P w) P w K mg base N qual (defScope st) f cdv A outer s H E pe) g (fun cls d _ H => E cls d H) c (defBody st) fb ∧ ∀ rs Q Ex, rs.length = ps.length → fn rs Q Ex → fb (endsD Q Ex) (startE N.length rs)) :
    FnHp P w K mg base (L2N.CX P w) (k + 1) f fd ps (spX K z d ps.length fn) pe := by
  refine fn_hp Fn S (fun vs H Q E h => ?_) (fun cdv A outer s H vs Q E hot hr h => ?_)
  · obtain ⟨st, F, rs, h1, _, _, _, h2, _⟩ := h
    rw [h2.length, h1]
  · obtain ⟨st0, F, rs, h1, hs, he, hX, ha, hf⟩ := h
    obtain ⟨c, fb, dd, imp⟩ := hb cdv A outer s H E ⟨K, st0, F, H⟩ rfl hX hot hr ⟨rfl, L2N.takes_of rfl rfl rfl rfl, by have := hr.un; show (A.deeper (envOfC qual (defScope _) s.heap.objs.size f cdv)).units + 66 < cLine; omega, passes_of rfl⟩
    have q := imp rs _ _ h1 hf
    refine ⟨_, dd.ps, 0, F, startE N.length rs, Nat.le_refl _, ok_start hs he ha (by omega), dd.mono _ _ _ ?_ q⟩
    exact ⟨fun e q F' σ' H' e' o => q F' H' .non o.grow o.sto.any (by simp only [RetR, Rep]), fun r q F' H' v w s rr => q F' H' v w s.any rr, fun e q => q.elim, fun e q => q.elim, fun e x q F' σ' H' d e' o rx => q F' H' d o.grow o.sto.any rx⟩
section
variable {X : Cx} {g : G} {W : WX} {ca : Nat} {fs : AD} {z : Exc} {d : Option Addr} {pe : Addr × Obj}
theorem de_callHp (cy : Cy X g W) {k n : Nat} {f : Addr} {fd : FuncData} {ps : List Str} {fn : FD} {x : Str} {e : Expr} {es : List Expr} {p pos : Pos} (Fn : FnHp X.prog X.w X.K X.mg X.base (L2N.CX X.prog X.w) k f fd ps (spX X.K z d n fn) pe) (mf : MonoF fn) (hr : L2H.RoomH k X.A) (hot : L2H.Hot1 X.A pe) (hp : pe ∈ X.pn) (hX : RepX g.K g.F0 z d)
    (hg : Gl X x) (hm : X.mg x = some (.ref f)) (hk : PySem.W.keepIn X.K (.ref f) = true) (hb : L2.Binds X.K fd ps [])
    (ha : DA X g W ca (e :: es) fs) (hdb : (x == ("__debug__" : Str)) = false := by decide) (he : starEach (e :: es) X.env = (false, eval e X.env) :: starEach es X.env := by rfl) (hpl : (backTo pos (starEach es X.env)).any (·.1) = false := by rfl) :
    DE X g W ca (.Call (.Name x p) (e :: es) [] pos) (eFn n fn fs) := by
  refine ⟨PEimp (pe_callHp Fn hr hot hp hg hm hk hb (fun σ => L2N.passAt cy.tk σ) ha.pa hdb he hpl) fun σ H Q ⟨T, F, env, hT, ok, h⟩ => ?_, fun env Q Q' E E' hq he h => ha.mono env _ _ _ _ (fun rs q => ⟨q.1, q.2.1, mf _ _ _ _ _ hq he q.2.2⟩) he h⟩
  refine run_a ok (by omega) ha.mono h (fun rs ⟨hl, hv, q⟩ F1 H1 vs w o rr => ?_) (exE.shift ok.refl (by omega))
  have ar := argR_of hv rr
  show spX X.K z d n fn vs H1 Q (WE W σ)
  rw [cy.k]
  refine ⟨g.st, F1, rs, hl, o.sto.any, o.fh, hX.mono o.grow.ff, ar, mf _ _ _ _ _ (fun r q F' H' v w2 s2 r2 => ?_) (fun x q F' H' d w2 s2 rx => q F' H' d (w.trans w2) (o.grown w2 s2.any) rx) q⟩
  refine q F' H' v (w.trans w2) (o.grown w2 s2.any) ?_
  cases r with
  | val d => exact r2
  | sto => exact r2
  | bor ys => exact r2.elim
  | own ys =>
    obtain ⟨a, rfl, n1, n2, n3, n4⟩ := r2
    have oa : OwnAt g H1 F' H' a ys := ⟨n1, n2, n3, n4⟩
    exact ⟨a, rfl, oa.since w, o.notOwn n2⟩
theorem hot_suite {a : Addr} {oe : Obj} {C : Addr} {pn : List (Addr × Obj)} (hz : L2N.Zn (.ref C) d oe) (hv : ∃ vs, oe.data = .fields vs) : L2H.Hot1 (X.suite a ((a, oe) :: pn)).A (a, oe) := by
  obtain ⟨vs, hv⟩ := hv
  exact ⟨rfl, vs, hv, hz.2.2 vs hv⟩
theorem err_of {oe : Obj} {C : Addr} (hz : L2N.Zn (.ref C) d oe) (hv : ∃ vs, oe.data = .fields vs) : ErrO oe C d := ⟨hz.zc, hv⟩
end
end DL
namespace DL
open PySem PySem.Spec L2
section
variable {X : Cx} {g : G} {W : WX} {ca : Nat} {fs : AD} {z : Exc} {d : Option Addr} {a : Addr} {oe : Obj} {e1 e2 : Expr} {p pos : Pos}
theorem de_isP (cy : Cy X g W) (E : ErrC X.K z.C) (O : ErrO oe z.C d) (hp : (a, oe) ∈ X.pn) (hX : RepX g.K g.F0 z d) (hg : Gl X "isinstance") (hm : X.mg "isinstance" = none) (ha : DA X g W ca [e1, e2] fs)
    (h1 : starEach [e1, e2] X.env = (false, eval e1 X.env) :: starEach [e2] X.env := by rfl) (h3 : (backTo pos (starEach [e2] X.env)).any (·.1) = false := by rfl) :
    DE X g W ca (.Call (.Name "isinstance" p) [e1, e2] [] pos) (eCall (isPQ g.K z.C a) fs) :=
  de_callB (by have h := call_isP (d := d) E O hp; rw [cy.k] at h; exact h) (d_isP hX) mono_isPQ hg hm (by decide +kernel) ha (by decide) (by decide) h1 h3
end
end DL
namespace DL
open PySem PySem.Spec L2
theorem init_run {K : PySem.W.Frag} {C : Addr} {f : Str} {vs : List V} {H : Hp} {Q : VK} {E : XK} {σ : L2.St} (h : spInit K C f vs H Q E) (hσ : ∀ a v, vs = [.ref a, v] → σ[0]? = some (some (.ref a)) ∧ σ[1]? = some (some v)) :
    tOst K f (tVar 0) (tVar 1) { nx := fun _ H' => Q .non H', rt := Q } σ H := by
  obtain ⟨a, v, rfl, e1, T, no, q⟩ := h
  obtain ⟨s0, s1⟩ := hσ a v rfl
  exact ⟨v, s1, .ref a, s0, a, C, rfl, T, no, .inl ⟨e1, fun dx n1 n2 => q dx n1 n2⟩⟩
end DL
namespace DL
open PySem PySem.Spec L2 PyProof.Rows
section
variable {prog : Program} {w : World} {A : Around} {E : Value → Shared → Prop} {s : Shared}
theorem collect_tup {l : Addr} {vs : List Value} {Q : List Value → Shared → Prop} (hl : s.heap.IsTuple l vs.toArray)
    (h : Q vs { s with heap := (s.heap.push (seqObj "list" #[] 0)).update s.heap.objs.size (Obj.mapSeq (· ++ vs.toArray)) }) (hsz : vs.length ≤ sizeLine) :
    wpAny (model prog w) A (collect (.ref l)) Q E s := by
  obtain ⟨o, ho, hc, n, hd⟩ := id hl
  unfold collect
  refine wpAny_bind (wpAny_runValue (codeAny_builtin entry_proto_collect' ?_))
  show wpAny _ _ (do again (.builtin "list.__iadd__" ⟨[← newList [], .ref l], []⟩)) _ _ s
  refine wpAny_bind (wpAny_newList (wpAny_pure ⟨Code.quiet_builtin _ (by decide +kernel), codeAny_builtin entry_list_iadd' ?_⟩))
  show wpAny _ _ (Builtin.List.listExtendWith (.ref s.heap.objs.size) (.ref l) (.ref s.heap.objs.size)) _ _ { s with heap := s.heap.push (seqObj "list" #[] 0) }
  unfold Builtin.List.listExtendWith
  have ho' : (s.heap.push (seqObj "list" #[] 0)).get? l = some o := Heap.get?_push_of_some _ ho
  refine wpAny_bind (wpAny_typeOf (T := "tuple") ⟨o, ho', hc⟩ ?_)
  have ht : (Value.type "tuple" == Value.type "tuple") = true := by rfl
  rw [if_pos (by rw [ht]; simp)]
  refine wpAny_bind (listItems_at ho' hd ?_)
  refine wpAny_bind (listItems_at (xs := #[]) (n := 0) (Heap.get?_push_size _ rfl) rfl ?_)
  rw [if_neg (by simp)]
  refine wpAny_bind (listUpdate_at (xs := #[]) (n := 0) (Heap.get?_push_size _ rfl) rfl ?_ (Nat.zero_le _) (by show (#[] ++ vs.toArray).size ≤ sizeLine + 1; simp only [Array.size_append, List.size_toArray, List.length_nil]; omega))
  refine wpAny_pure ?_
  show wpAny (model prog w) A (do
      let o ← load s.heap.objs.size
      match o.data with
      | .seq xs _ => pure xs.toList
      | _ => unsupported "internal:collect") Q E { s with heap := (s.heap.push (seqObj "list" #[] 0)).update s.heap.objs.size (Obj.mapSeq (· ++ vs.toArray)) }
  refine wpAny_bind (wpAny_load (get?_update_seq (Heap.get?_push_size _ rfl) _) ?_)
  show wpAny _ _ (pure ((#[] : Array Value) ++ vs.toArray).toList) Q E _
  rw [show ((#[] : Array Value) ++ vs.toArray).toList = vs by simp]
  exact wpAny_pure h
theorem sortedKA {κ : KeyKind} (hO : κ.OneLt) {l : Addr} {vs : List Value} {Q : Value → Shared → Prop} (hl : s.heap.IsList l vs.toArray ∨ s.heap.IsTuple l vs.toArray) (h0 : KeysOf κ (pairsOf vs)) (hkk : ∀ v₁ v₂ rest, vs = v₁ :: v₂ :: rest → keyKind' (v₁ :: v₂ :: rest).toArray = pure oneType') (hL : vs.length ≤ sizeLine)
    (h : ∀ st' : SortSt, (arrOf st').Perm (pairsOf vs) → SortedToK κ (arrOf st') (pairsOf vs).size → Q (.ref (s.heap.objs.size + 1)) { s with heap := sortedAll s.heap vs ((arrOf st').map (·.2)) }) :
    wpAny (model prog w) A (call (.builtin "sorted") [.ref l]) Q E s := by
  refine Calls.call_function_entry kind_sorted plain_sorted entry_sorted (args_sorted1 _) ?_
  unfold Builtin.«sorted»
  refine wpAny_bind (m := checkCount "sorted" 1 1 _) (wpAny_pure ?_)
  have key : wpAny (model prog w) A.in1 (collect (.ref l)) (fun us s1 => us = vs ∧ s1 = { s with heap := (s.heap.push (seqObj "list" #[] 0)).update s.heap.objs.size (Obj.mapSeq (· ++ vs.toArray)) }) E s := by
    rcases hl with hl | hl
    · exact collect_list hl ⟨rfl, rfl⟩ hL
    · exact collect_tup hl ⟨rfl, rfl⟩ hL
  refine wpAny_bind (wpAny_mono key (fun us s1 hh => ?_) (fun _ _ z => z))
  obtain ⟨rfl, rfl⟩ := hh
  refine wpAny_bind (wpAny_newList ?_ hL)
  have hsz : ((s.heap.push (seqObj "list" #[] 0)).update s.heap.objs.size (Obj.mapSeq (· ++ us.toArray))).objs.size = s.heap.objs.size + 1 := by
    rw [Heap.size_update, size_push']
  have hoL : (((s.heap.push (seqObj "list" #[] 0)).update s.heap.objs.size (Obj.mapSeq (· ++ us.toArray))).push (seqObj "list" us.toArray 0)).get? (s.heap.objs.size + 1) = some (seqObj "list" us.toArray 0) := by
    rw [← hsz]; exact Heap.get?_push_size _ rfl
  show wpAny _ _ _ _ _ { s with heap := ((s.heap.push (seqObj "list" #[] 0)).update s.heap.objs.size (Obj.mapSeq (· ++ us.toArray))).push (seqObj "list" us.toArray 0) }
  rw [hsz]
  refine wpAny_bind (wpAny_holding (wpAny_call_entry slot_list_sort ⟨_, hoL, rfl⟩ entry_list_sort (list_sort_treeKAny hO hoL h0 hkk hL fun st' a1 a2 => ⟨_, rfl, ?_⟩) (args_list_sort _)))
  exact wpAny_pure ⟨_, rfl, h st' a1 a2⟩
end
def leS (a b : Str) : Bool := !ltCps b.cps.toList a.cps.toList
theorem leS_iff {a b : Str} : leS a b = true ↔ a.cps.toList ≤ b.cps.toList := by
  unfold leS
  rw [ltCps_eq]
  simp
theorem str_ext {a b : Str} (h : a.cps.toList = b.cps.toList) : a = b := by
  cases a; cases b
  simp only [Array.toList_inj] at h
  rw [h]
theorem leS_trans (a b c : Str) : leS a b = true → leS b c = true → leS a c = true := fun h1 h2 => leS_iff.mpr (List.le_trans (leS_iff.mp h1) (leS_iff.mp h2))
theorem leS_total (a b : Str) : (leS a b || leS b a) = true := by
  rw [Bool.or_eq_true, leS_iff, leS_iff]
  exact List.le_total _ _
theorem leS_anti {a b : Str} (h1 : leS a b = true) (h2 : leS b a = true) : a = b := str_ext (List.le_antisymm (leS_iff.mp h1) (leS_iff.mp h2))
theorem leS_refl (a : Str) : leS a a = true := by
  have := leS_total a a
  simpa using this
def sortS (l : List Str) : List Str := l.mergeSort leS
theorem sortS_perm (l : List Str) : (sortS l).Perm l := List.mergeSort_perm l leS
theorem sortS_pw (l : List Str) : (sortS l).Pairwise fun a b => leS a b = true := List.pairwise_mergeSort leS_trans leS_total l
theorem risingS_pw : ∀ (l : List Str) (p : Str), risingS p l = true → (p :: l).Pairwise fun a b => leS a b = true
  | [], p, _ => List.pairwise_singleton _ _
  | x :: r, p, h => by
    have h' : (!ltCps x.cps.toList p.cps.toList && risingS x r) = true := h
    rw [Bool.and_eq_true] at h'
    have ih := risingS_pw r x h'.2
    rw [List.pairwise_cons]
    refine ⟨fun a ha => ?_, ih⟩
    rcases List.mem_cons.mp ha with rfl | ha
    · exact h'.1
    · exact leS_trans _ _ _ h'.1 (List.rel_of_pairwise_cons ih ha)
theorem sortedS_pw : ∀ {l : List Str}, sortedS l = true → l.Pairwise fun a b => leS a b = true
  | [], _ => List.Pairwise.nil
  | x :: r, h => risingS_pw r x h
theorem sort_uniq {a b : List Str} (p : a.Perm b) (h1 : a.Pairwise fun a b => leS a b = true) (h2 : b.Pairwise fun a b => leS a b = true) : a = b :=
  List.Perm.eq_of_pairwise (fun _ _ _ _ x y => leS_anti x y) h1 h2 p
section
variable {X : Cx} {g : G} {W : WX} {ca : Nat} {fa : ED} {a : Expr} {pos p : Pos}
theorem cr_sortedA : CallR X (.builtin "sorted") (fun vs H Q => ∃ (a : Addr) (xs : List Str), vs = [V.ref a] ∧ (SqL X.K H a (xs.map V.str) ∨ SqT X.K H a (xs.map V.str)) ∧ xs.length ≤ 100000 ∧
  ∀ (p : Addr), H p = none → Q (.ref p) (upd H p (.lst ((sortS xs).map V.str)))) := by
  intro pins s σ H vs us Q I r h
  obtain ⟨a, xs, rfl, hs, h64, q⟩ := h
  rw [Vals.ref1 r]
  obtain ⟨its, rv, hl⟩ : ∃ its, Vals (xs.map V.str) its ∧ (s.heap.IsList a its.toArray ∨ s.heap.IsTuple a its.toArray) := by
    rcases hs with hs | hs
    · obtain ⟨its, rv, hl, _⟩ := I.list hs
      exact ⟨its, rv, .inl hl.isList⟩
    · obtain ⟨its, rv, hl, _⟩ := I.tuple hs
      exact ⟨its, rv, .inr hl⟩
  have hlen0 := rv.length
  rw [List.length_map] at hlen0
  have hS := rv.strs
  refine sortedKA strKind_oneLt hl hS.keysOf (fun v₁ v₂ rest e => keyKind_strs (by rw [← e]; exact hS)) (by rw [← hlen0]; exact lim_line h64) fun st' hp hs => ?_
  obtain ⟨ys, h1, h2, h3⟩ := sorted_out_str hS hp hs
  have e : ys = sortS xs := sort_uniq (h2.trans (sortS_perm xs).symm) (sortedS_pw h3) (sortS_pw xs)
  subst e
  obtain ⟨ep, he'⟩ := PyProof.Rows.sortedAll_at s.heap its ((arrOf st').map (·.2))
  have hlen : ((sortS xs).map V.str).length ≤ sizeLine := by rw [List.length_map, h2.length_eq]; exact lim_line h64
  exact ⟨.ref _, upd H (s.heap.objs.size + 1) (.lst ((sortS xs).map V.str)), I.laid (t' := s.toks) (fun _ _ => PyProof.Rows.sortedAll_old) (Nat.le_succ _) ⟨hlen, ((arrOf st').map (·.2)).toList, ep, vals_of_strs h1, he'⟩, rfl, q _ (I.hok.fresh (Nat.le_succ _))⟩
def sortedQ : QC := fun rs Q => match rs with
  | [x] => ∃ ds ss, asSeq x = some ds ∧ strsOf ds = some ss ∧ ss.length ≤ LIM ∧ Q (.own ((sortS ss).map D.str))
  | _ => False
theorem mono_sortedQ : MonoC sortedQ := fun xs Q Q' hq q => by
  unfold sortedQ at q ⊢
  split
  · obtain ⟨ds, ss, h1, h2, h3, q⟩ := q
    exact ⟨ds, ss, h1, h2, h3, hq _ q⟩
  · split at q
    · simp_all
    · exact q
theorem d_sorted : CallD g (fun vs H Q => ∃ (a : Addr) (xs : List Str), vs = [V.ref a] ∧ (SqL g.K H a (xs.map V.str) ∨ SqT g.K H a (xs.map V.str)) ∧ xs.length ≤ 100000 ∧
  ∀ (p : Addr), H p = none → Q (.ref p) (upd H p (.lst ((sortS xs).map V.str)))) sortedQ := by
  intro T F env σ H Hs xs vs Q Qv ok rs q k
  unfold sortedQ at q
  split at q
  · obtain ⟨v, rfl, r⟩ := rs1 (rs := []) rs
    obtain ⟨ds, ss, h1, h2, h3, q⟩ := q
    obtain ⟨a, us, rfl, h4, h5⟩ := asSeq_rep ok h1 r
    have e := strsOf_eq h2
    subst e
    have e2 := repL_strs.mp h5
    subst e2
    exact ⟨a, ss, rfl, h4, h3, fun p hp => k _ F _ _ q (Grow.new ok.fh ok.sto.free hp) (ok.new hp) (RepR.made ok hp (repL_strs.mpr rfl))⟩
  · exact q.elim
theorem de_sorted (cy : Cy X g W) (hg : Gl X "sorted") (hm : X.mg "sorted" = none) (ha : DE X g W ca a fa) (h1 : starEach [a] X.env = (false, eval a X.env) :: starEach [] X.env := by rfl) (h3 : (backTo pos (starEach [] X.env)).any (·.1) = false := by rfl) : DE X g W (ca + 0) (.Call (.Name "sorted" p) [a] [] pos) (eCall sortedQ (aCons fa aNil)) :=
  de_callB (by have h := cr_sortedA (X := X); rw [cy.k] at h; exact h) d_sorted mono_sortedQ hg hm (by decide +kernel) (da_cons ha da_nil h1) (by decide) (by decide) h1 h3
def sortK (o : Option (List Str)) (Q : RV → Prop) (_u : Fx Q := ()) : Prop := ∃ ss, o = some ss ∧ ss.length ≤ LIM ∧ Q (.own ((sortS ss).map D.str))
theorem W_sortK {ss : List Str} {Q : RV → Prop} : sortK (some ss) Q = (ss.length ≤ LIM ∧ Q (.own ((sortS ss).map D.str))) := propext ⟨fun ⟨_, h, q⟩ => by cases h; exact q, fun q => ⟨_, rfl, q⟩⟩
theorem W_sorted1 {ds : List D} {Q : RV → Prop} : sortedQ [.val (.lst ds)] Q = sortK (strsOf ds) Q := propext ⟨fun ⟨_, ss, h1, h2, q⟩ => by cases h1; exact ⟨ss, h2, q⟩, fun ⟨ss, h2, q⟩ => ⟨_, ss, rfl, h2, q⟩⟩
theorem W_sorted2 {ds : List D} {Q : RV → Prop} : sortedQ [.val (.tup ds)] Q = sortK (strsOf ds) Q := propext ⟨fun ⟨_, ss, h1, h2, q⟩ => by cases h1; exact ⟨ss, h2, q⟩, fun ⟨ss, h2, q⟩ => ⟨_, ss, rfl, h2, q⟩⟩
theorem W_sorted3 {ds : List D} {Q : RV → Prop} : sortedQ [.bor ds] Q = sortK (strsOf ds) Q := propext ⟨fun ⟨_, ss, h1, h2, q⟩ => by cases h1; exact ⟨ss, h2, q⟩, fun ⟨ss, h2, q⟩ => ⟨_, ss, rfl, h2, q⟩⟩
end
end DL
namespace DL
open PySem PySem.Spec L2
def lfR : RV → Prop
  | .val d => lf d = true
  | .own xs => lfL xs = true
  | .sto => True
  | .bor _ => False
def lfX (x : Exc) : Prop := lfL x.xs = true
def lentS : Option SV → Option SV
  | some (.own xs) => some (.val (.lst xs))
  | o => o
def lent (env : En) : En := env.map lentS
def eLoan (fa : ED) : ED := fun env Q E => fa (lent env) (fun r => lfR r ∧ Q r) (fun x => lfX x ∧ E x)
def IsOwn (env : En) (σ : St) (b : Addr) : Prop := ∃ (i : Nat) (xs : List D), env[i]? = some (some (.own xs)) ∧ σ[i]? = some (some (.ref b))
open Classical in
noncomputable def loanF (F H : Hp) (env : En) (σ : St) : Hp := fun b => match F b with
  | some o => some o
  | none => if IsOwn env σ b then H b else none
def backF (F H F' : Hp) : Hp := fun b => match F b with
  | some o => some o
  | none => match H b with
    | some _ => none
    | none => F' b
section
variable {X : Cx} {g : G} {W : WX} {T T' ca : Nat} {F F' H H' Hs : Hp} {env : En} {σ : St} {b : Addr} {o : HO} {fa : ED} {v : V} {r : RV}
theorem loan_F (h : F b = some o) : loanF F H env σ b = some o := by unfold loanF; rw [h]
theorem loan_own (h : F b = none) (i : IsOwn env σ b) : loanF F H env σ b = H b := by unfold loanF; rw [h]; exact if_pos i
theorem loan_no (h : F b = none) (i : ¬ IsOwn env σ b) : loanF F H env σ b = none := by unfold loanF; rw [h]; exact if_neg i
theorem back_F (h : F b = some o) : backF F H F' b = some o := by unfold backF; rw [h]
theorem back_old (h : F b = none) (k : H b ≠ none) : backF F H F' b = none := by
  unfold backF
  rw [h]
  cases e : H b with
  | none => exact absurd e k
  | some x => rfl
theorem back_new (h : F b = none) (k : H b = none) : backF F H F' b = F' b := by unfold backF; rw [h, k]
theorem lent_get {i : Nat} {s : SV} (h : (lent env)[i]? = some (some s)) : (∃ xs, env[i]? = some (some (.own xs)) ∧ s = .val (.lst xs)) ∨ (env[i]? = some (some s) ∧ ∀ xs, s ≠ .own xs) := by
  unfold lent at h
  rw [List.getElem?_map] at h
  cases e : env[i]? with
  | none => rw [e] at h; cases h
  | some z =>
    rw [e] at h
    cases z with
    | none => cases h
    | some z =>
      cases z with
      | own xs =>
        simp only [Option.map_some, lentS, Option.some.injEq] at h
        exact .inl ⟨xs, rfl, h.symm⟩
      | val d =>
        simp only [Option.map_some, lentS, Option.some.injEq] at h
        subst h
        exact .inr ⟨rfl, fun xs z => nomatch z⟩
      | sto =>
        simp only [Option.map_some, lentS, Option.some.injEq] at h
        subst h
        exact .inr ⟨rfl, fun xs z => nomatch z⟩
theorem Ok.loan (ok : Ok g T F env σ H) : Ok g T (loanF F H env σ) (lent env) σ H ∧ Evl.Ex F (loanF F H env σ) := by
  have e1 : Evl.Ex F (loanF F H env σ) := fun b o h => loan_F h
  have hown : ∀ {b : Addr}, IsOwn env σ b → ∃ xs, OwnAt g g.H0 F H b xs := fun {b} ⟨i, xs, h1, h2⟩ => by
    obtain ⟨a, h3, h4⟩ := ok.own i xs h1
    rw [h2] at h3
    cases h3
    exact ⟨xs, h4⟩
  have fn : ∀ {b : Addr}, F b = none → ¬ IsOwn env σ b → loanF F H env σ b = none := fun h i => loan_no h i
  have sf : loanF F H env σ g.st = none := loan_no ok.grow.sf fun i => by
    obtain ⟨xs, h⟩ := hown i
    exact h.ns rfl
  refine ⟨⟨⟨ok.grow.ff.trans e1, fun b x h => ?_, ok.grow.hh, fun b h0 h1 => ?_, sf⟩, ok.sto.to e1 rfl sf, by unfold lent; rw [List.length_map]; exact ok.len, fun i d h => ?_, fun i h => ?_, fun i xs h => ?_, fun i j xs ys _ h => ?_⟩, e1⟩
  · cases e : F b with
    | some o =>
      rw [loan_F e] at h
      cases h
      exact ok.fh _ _ e
    | none =>
      by_cases i : IsOwn env σ b
      · rwa [loan_own e i] at h
      · rw [loan_no e i] at h
        cases h
  · have hF := ok.grow.nf b h0 h1
    by_cases i : IsOwn env σ b
    · obtain ⟨xs, h⟩ := hown i
      exact absurd h.new h1
    · exact loan_no hF i
  · rcases lent_get h with ⟨xs, h1, h2⟩ | ⟨h1, _⟩
    · cases h2
      obtain ⟨a, h3, h4⟩ := ok.own i xs h1
      obtain ⟨vs, h5, h6⟩ := h4.at'
      refine ⟨_, h3, ?_⟩
      simp only [Rep]
      exact ⟨a, vs, rfl, by rw [loan_own h4.nf ⟨i, xs, h1, h3⟩]; exact h5, h6.mono e1⟩
    · obtain ⟨v, h3, h4⟩ := ok.val i d h1
      exact ⟨v, h3, h4.mono e1⟩
  · rcases lent_get h with ⟨xs, h1, h2⟩ | ⟨h1, _⟩
    · cases h2
    · exact ok.stor i h1
  · rcases lent_get h with ⟨xs, h1, h2⟩ | ⟨h1, h2⟩
    · cases h2
    · exact absurd rfl (h2 xs)
  · rcases lent_get h with ⟨xs, h1, h2⟩ | ⟨h1, h2⟩
    · cases h2
    · exact absurd rfl (h2 xs)
theorem loan_old (ok : Ok g T F env σ H) (w : Grow g.st (loanF F H env σ) H F' H') (hF : F b = none) (hH : H b ≠ none) : F' b = none ∨ ∃ vs, F' b = some (.lst vs) := by
  by_cases i : IsOwn env σ b
  · obtain ⟨j, xs, h1, h2⟩ := i
    obtain ⟨a, h3, h4⟩ := ok.own j xs h1
    rw [h2] at h3
    cases h3
    obtain ⟨vs, h5, _⟩ := h4.at'
    exact .inr ⟨vs, w.ff _ _ (by rw [loan_own hF ⟨j, xs, h1, h2⟩]; exact h5)⟩
  · exact .inl (w.nf b (loan_no hF i) hH)
theorem Ok.back (ok : Ok g T F env σ H) (w : Grow g.st (loanF F H env σ) H F' H') (o : Ok g T' F' (lent env) σ H') :
    Grow g.st F H (backF F H F') H' ∧ Ok g T' (backF F H F') env σ H' ∧ Tx F' (backF F H F') := by
  have e1 : Evl.Ex F (loanF F H env σ) := fun b o h => loan_F h
  have ef : Evl.Ex F (backF F H F') := fun b x h => back_F h
  have hst : H g.st ≠ none := ok.sto.some
  have sf : backF F H F' g.st = none := back_old ok.grow.sf hst
  have fh : Evl.Ex (backF F H F') H' := fun b x h => by
    cases e : F b with
    | some z =>
      rw [back_F e] at h
      cases h
      exact w.fh _ _ (w.ff _ _ (e1 _ _ e))
    | none =>
      by_cases k : H b = none
      · rw [back_new e k] at h
        exact w.fh _ _ h
      · rw [back_old e k] at h
        cases h
  have gr : Grow g.st F H (backF F H F') H' := ⟨ef, fh, w.hh, fun b h k => back_old h k, sf⟩
  have sto : StoreAt g.K g.st T' (backF F H F') H' := by
    obtain ⟨c, ns, i, r, sd, t, h1, ⟨z, h2⟩, h3⟩ := o.sto.at'
    refine ⟨sf, c, ns, i, r, sd, t, h1, ⟨z, ?_⟩, h3⟩
    cases e : F c with
    | some y =>
      have := w.ff _ _ (e1 _ _ e)
      rw [h2] at this
      cases this
      exact back_F e
    | none =>
      by_cases k : H c = none
      · rw [back_new e k]
        exact h2
      · rcases loan_old ok w e k with q | ⟨vs, q⟩
        · rw [h2] at q; cases q
        · rw [h2] at q; cases q
  have tx : Tx F' (backF F H F') := fun a x h => by
    cases e : F a with
    | some y =>
      have := w.ff _ _ (e1 _ _ e)
      rw [h] at this
      cases this
      exact .inr (.inr (back_F e))
    | none =>
      by_cases k : H a = none
      · exact .inr (.inr (by rw [back_new e k]; exact h))
      · rcases loan_old ok w e k with q | ⟨vs, q⟩
        · rw [h] at q; cases q
        · rw [h] at q; cases q; exact .inl ⟨vs, rfl⟩
  refine ⟨gr, ⟨ok.grow.trans gr, sto, ok.len, fun i d h => ?_, ok.stor, fun i xs h => ?_, ok.dis⟩, tx⟩
  · obtain ⟨v, h1, h2⟩ := ok.val i d h
    exact ⟨v, h1, h2.mono ef⟩
  · obtain ⟨a, h1, h2⟩ := ok.own i xs h
    exact ⟨a, h1, h2.grow gr⟩
theorem RepR.back (ok : Ok g T F env σ H) (tx : Tx F' (backF F H F')) (l : lfR r) (h : RepR g H F' H' (lent env) σ r v) : RepR g H (backF F H F') H' env σ r v := by
  cases r with
  | val d => exact Rep.lf tx l h
  | sto => exact h
  | bor xs => exact l.elim
  | own xs =>
    obtain ⟨a, h1, h2, h3⟩ := h
    obtain ⟨vs, h4, h5⟩ := h2.at'
    refine ⟨a, h1, ⟨h2.ns, h2.new, ?_, vs, h4, RepL.lf tx l h5⟩, ok.notOwn h2.new⟩
    cases e : F a with
    | some y =>
      have := ok.fh _ _ e
      rw [h2.new] at this
      cases this
    | none => rw [back_new e h2.new]; exact h2.nf
theorem RepX.back {x : Exc} {d : Option Addr} {K : PySem.W.Frag} {F2 : Hp} (tx : Tx F' F2) (l : lfX x) (h : RepX K F' x d) : RepX K F2 x d := by
  rcases h with h | ⟨dd, vs, h1, h2, h3, h4⟩
  · exact .inl h
  · refine .inr ⟨dd, vs, h1, ?_, h3, RepL.lf tx l h4⟩
    rcases tx _ _ h2 with ⟨_, z⟩ | ⟨_, _, z⟩ | z
    · cases z
    · cases z
    · exact z
theorem DE.loan {e : Expr} (h : DE X g W ca e fa) : DE X g W ca e (eLoan fa) := by
  refine ⟨PEimp h.pe fun σ H Q ⟨T, F, env, hT, ok, q⟩ => ?_, fun env Q Q' E E' hq he q => h.mono _ _ _ _ _ (fun r q => ⟨q.1, hq _ q.2⟩) (fun x q => ⟨q.1, he _ q.2⟩) q⟩
  obtain ⟨ok1, e1⟩ := ok.loan
  refine ⟨T, _, lent env, hT, ok1, h.mono _ _ _ _ _ (fun r q F' H' v w o rr => ?_) (fun x q F' H' d w o rx => ?_) q⟩
  · obtain ⟨gr, o2, tx⟩ := ok.back w o
    exact q.2 _ H' v gr o2 (RepR.back ok tx q.1 rr)
  · obtain ⟨gr, o2, tx⟩ := ok.back w o
    exact q.2 _ H' d gr o2 (RepX.back tx q.1 rx)
theorem W_loan {Q : RV → Prop} {E : Exc → Prop} : eLoan fa env Q E = fa (lent env) (fun r => lfR r ∧ Q r) (fun x => lfX x ∧ E x) := rfl
theorem W_lent1 {xs : List D} : lentS (some (.own xs)) = some (.val (.lst xs)) := rfl
theorem W_lent2 {d : D} : lentS (some (.val d)) = some (.val d) := rfl
theorem W_lent3 : lentS (some .sto) = some .sto := rfl
theorem W_lent4 : lentS none = none := rfl
theorem W_lent : lent env = env.map lentS := rfl
theorem W_lfR1 {d : D} : lfR (.val d) = (lf d = true) := rfl
theorem W_lfR2 {xs : List D} : lfR (.own xs) = (lfL xs = true) := rfl
end
section
variable {X : Cx} {g : G} {W : WX} {T ca cb cc : Nat} {F H : Hp} {env : En} {σ : St} {fa : ED} {s : Stmt}
theorem Ok.freezeSet {i : Nat} {xs : List D} (k : Ok g T F (env.set i (some (.own xs))) σ H) : ∃ F', Evl.Ex F F' ∧ Ok g T F' (env.set i (some (.val (.lst xs)))) σ H := by
  by_cases hi : i < env.length
  · have h : (env.set i (some (.own xs)))[i]? = some (some (.own xs)) := List.getElem?_set_self hi
    obtain ⟨F', e, o⟩ := k.freezeVar h
    rw [List.set_set] at o
    exact ⟨F', e, o⟩
  · have e1 : env.set i (some (.own xs)) = env := List.set_eq_of_length_le (by omega)
    have e2 : env.set i (some (.val (.lst xs))) = env := List.set_eq_of_length_le (by omega)
    rw [e1] at k
    rw [e2]
    exact ⟨F, Evl.Ex.refl F, k⟩
theorem ds_freeze {i : Nat} (h : DS X g W ca s (sAsg i fa)) (m : MonoE fa) : DS X g W ca s (sAsg i (frz fa)) := by
  have mf : MonoE (frz fa) := fun env Q Q' E E' hq he q => m env _ _ _ _ (fun r q => by
    cases r with
    | own xs => exact hq _ q
    | val d => exact hq _ q
    | bor xs => exact hq _ q
    | sto => exact hq _ q) he q
  refine ⟨PSimp h.ps fun D σ H ⟨T, F, env, hT, ok, q⟩ => ⟨T, F, env, hT, ok, ?_⟩, mono_asg mf⟩
  have q' : fa env (fun r => match r with
    | .own xs => ∃ s, toSV (.val (.lst xs)) = some s ∧ (enS g W (T + ca) F D).nx (env.set i (some s))
    | r => ∃ s, toSV r = some s ∧ (enS g W (T + ca) F D).nx (env.set i (some s))) ((enS g W (T + ca) F D).ex env) := q
  refine m env _ _ _ _ (fun r q => ?_) (fun x q => q) q'
  cases r with
  | val d => exact q
  | bor xs => exact q
  | sto => exact q
  | own xs =>
    obtain ⟨s, h1, q⟩ := q
    simp only [toSV, Option.some.injEq] at h1
    subst h1
    refine ⟨_, rfl, fun F' σ' H' e o => ?_⟩
    obtain ⟨F2, e2, o2⟩ := o.freezeSet
    exact q F2 σ' H' (e.trans e2) o2
end
section
variable {X : Cx} {g : G} {W : WX} {ca cb : Nat} {fa fb : ED} {a e : Expr} {pos p apos cpos : Pos} {n : Str}
end
end DL
namespace DL
open PySem PySem.Spec L2
section
variable {X : Cx} {g : G} {W : WX} {ca cb : Nat} {fa fb : ED} {a e : Expr} {pos p apos cpos : Pos} {n : Str} {A : DEn} {env : En} {Q : RV → Prop} {E : Exc → Prop} {xs ys : List D} {P : List D → Prop}
def clearQ : QM := fun rs xs P => rs = [] ∧ P []
theorem W_clear : clearQ [] xs P = P [] := propext ⟨fun h => h.2, fun h => ⟨rfl, h⟩⟩
def reverseQ : QM := fun rs xs P => rs = [] ∧ P xs.reverse
theorem RepL.reverse {K : PySem.W.Frag} {F : Hp} : ∀ {ds : List D} {vs : List V}, RepL K F ds vs → RepL K F ds.reverse vs.reverse
  | [], vs, h => by simp only [RepL] at h; subst h; simp [RepL]
  | d :: ds, vs, h => by
    simp only [RepL] at h
    obtain ⟨v, r, rfl, h2, h3⟩ := h
    rw [List.reverse_cons, List.reverse_cons]
    exact (RepL.reverse h3).append (repL_cons.mpr ⟨v, [], rfl, h2, repL_nil.mpr rfl⟩)
theorem W_reverse : reverseQ [] xs P = P xs.reverse := propext ⟨fun h => h.2, fun h => ⟨rfl, h⟩⟩
def extendQ : QM := fun rs xs P => match rs with
  | [x] => ∃ ys, asL x = some ys ∧ xs.length + ys.length ≤ LIM ∧ P (xs ++ ys)
  | _ => False
theorem W_extend1 : extendQ [.val (.lst ys)] xs P = (xs.length + ys.length ≤ LIM ∧ P (xs ++ ys)) := propext ⟨fun ⟨_, h1, h2, q⟩ => by cases h1; exact ⟨h2, q⟩, fun ⟨h2, q⟩ => ⟨_, rfl, h2, q⟩⟩
theorem W_extend2 : extendQ [.bor ys] xs P = (xs.length + ys.length ≤ LIM ∧ P (xs ++ ys)) := propext ⟨fun ⟨_, h1, h2, q⟩ => by cases h1; exact ⟨h2, q⟩, fun ⟨h2, q⟩ => ⟨_, rfl, h2, q⟩⟩
theorem W_intfb {b : Bool} : intOfQ [.val (.bl b)] Q = Q (.val (.int (if b then 1 else 0))) := rfl
def idxK (s : Str) (P : D → Prop) : RV → Prop := fun r => ∃ c, r = .val (.str ⟨#[c]⟩) ∧ c ∈ s.cps.toList ∧ ∀ i : Nat, s.cps.toList[i]? = some c → P (.int (i : Nat))
def eSIdx (fa fb : ED) : ED := fun env Q E => fa env (fun x => ∃ s, x = .val (.str s) ∧ frz fb env (idxK s fun d => Q (.val d)) E) E
theorem de_sidx (cy : Cy X g W) (ha : DE X g W ca a fa) (hb : DE X g W cb e fb)
    (hbase : attributeBase a "index" X.env (eval a X.env) = eval a X.env := by rfl)
    (hfew : ((backTo cpos (starEach [e] X.env)).all (fun x => !x.1) &&
        (backToKw cpos (keywordEach [] X.env)).all (fun x => x.1.isSome)
      && decide ([e].length + ([] : List Keyword).length + (if ([] : List Keyword).isEmpty then 0 else 1) < 30)) = true := by rfl)
    (hline : (apos.endLine == cpos.line) = true := by rfl) (hs : starEach [e] X.env = (false, eval e X.env) :: starEach [] X.env := by rfl) (hplain : (backTo cpos (starEach [] X.env)).any (·.1) = false := by rfl) :
    DE X g W (ca + cb) (.Call (.Attribute a "index" apos) [e] [] cpos) (eSIdx fa fb) := by
  have hp := pe_bm PySem.F.plainAttrs_str PySem.F.slot_str_index PySem.F.type_str_index (mt_sindex (X := X)) ha.pe (pa_cons hb.frz.pe pa_nil hs) hbase hfew hline hs hplain
  refine ⟨PEimp hp fun σ H Q ⟨T, F, env, hT, ok, h⟩ => ?_, fun env Q Q' E E' hq he h => ha.mono env _ _ _ _ (fun x hx => ?_) he h⟩
  · refine run_e ok (by omega) ha.mono h (fun x hx F1 H1 v w o rx => ?_) (exE.shift ok.refl (by omega))
    obtain ⟨s, rfl, q⟩ := hx
    simp only [RepR, Rep] at rx
    subst rx
    refine ⟨rfl, run_e o (by omega) hb.frz.mono q (fun y hy F2 H2 v2 w2 o2 ry => ?_) (exE.shift w (by omega))⟩
    obtain ⟨c, rfl, hc, q⟩ := hy
    simp only [RepR, Rep] at ry
    subst ry
    have hne := PySem.StrLaws.found_one s c
    rw [decide_eq_true hc] at hne
    cases ho : Builtin.Str.occurrences s ⟨#[c]⟩ 0 s.length 1 with
    | nil => rw [ho] at hne; simp at hne
    | cons i rest =>
      have hi := (PySem.StrLaws.subAt_one s c i).mp (PySem.StrLaws.occ_spec s ⟨#[c]⟩ 0 s.length 1 i (by rw [ho]; exact List.mem_cons_self))
      exact ⟨s, ⟨#[c]⟩, i, rest, rfl, rfl, ho, q i hi F2 H2 _ (w.trans w2) (by rw [← Nat.add_assoc]; exact o2) (by simp only [RepR, Rep])⟩
  · obtain ⟨s, h0, q⟩ := hx
    refine ⟨s, h0, hb.frz.mono env _ _ _ _ (fun y hy => ?_) he q⟩
    obtain ⟨c, h1, h2, q⟩ := hy
    exact ⟨c, h1, h2, fun i hi => hq _ (q i hi)⟩
theorem W_sidx : eSIdx fa fb env Q E = fa env (strK fun s => frz fb env (idxK s fun d => Q (.val d)) E) E := rfl
theorem idx_of {s : Str} {c : Nat} {P : D → Prop} (hc : c ∈ s.cps.toList) (h : ∀ i : Nat, s.cps.toList[i]? = some c → P (.int (i : Nat))) : idxK s P (.val (.str ⟨#[c]⟩)) := ⟨c, rfl, hc, h⟩
end
section
variable {X : Cx} {g : G} {W : WX} {ca : Nat} {fa : ED} {e : Expr} {pos p : Pos} {n : Str} {A : DEn} {env : En} {Q : RV → Prop} {E : Exc → Prop} {d : D}
def raiseK (P : D → Prop) : RV → Prop := fun r => match r with | .val d => P d | _ => False
theorem W_raiseK {P : D → Prop} : raiseK P (.val d) = P d := rfl
theorem W_raise {C : Addr} {f : Str} : sRaise C f fa A env = frz fa env (raiseK fun d => A.ex env ⟨C, [f], [d]⟩) (A.ex env) := rfl
def tryE (hk : Addr → Option Bool) (i : Nat) (fs : Addr → Exc → SD) (A : DEn) (env' : En) (z : Exc) : Prop := (hk z.C = some true ∧ ∀ a, fs a z (endsTry i A) (env'.set i (some (.val (.cls a))))) ∨ (hk z.C = some false ∧ A.ex env' z)
theorem W_try {hk : Addr → Option Bool} {i : Nat} {fb : SD} {fs : Addr → Exc → SD} : sTry hk i fb fs A env = fb { A with ex := tryE hk i fs A } env := rfl
theorem try_of {hk : Addr → Option Bool} {i : Nat} {fs : Addr → Exc → SD} {z : Exc} (h : hk z.C = some true) (q : ∀ a, fs a z (endsTry i A) (env.set i (some (.val (.cls a))))) : tryE hk i fs A env z := .inl ⟨h, q⟩
def isPK (K : PySem.W.Frag) (C : Addr) (c : D) (Q : RV → Prop) (_u : Fx Q := ()) : Prop := ∃ b, errKit K C c = some b ∧ Q (.val (.bl b))
theorem W_isPK {K : PySem.W.Frag} {C a : Addr} {c : D} : isPQ K C a [.val (.cls a), .val c] Q = isPK K C c Q :=
  propext ⟨fun ⟨c', b, h1, h2, h3⟩ => by cases h1; exact ⟨b, h2, h3⟩, fun ⟨b, h2, h3⟩ => ⟨c, b, rfl, h2, h3⟩⟩
theorem isP_of {K : PySem.W.Frag} {C : Addr} {c : D} {b : Bool} (h : errKit K C c = some b) (q : Q (.val (.bl b))) : isPK K C c Q := ⟨b, h, q⟩
def fldK (o : Option D) (Q : RV → Prop) (_u : Fx Q := ()) : Prop := ∃ d, o = some d ∧ Q (.val d)
theorem W_fld : fldK (some d) Q = Q (.val d) := propext ⟨fun ⟨_, h, q⟩ => by cases h; exact q, fun q => ⟨_, rfl, q⟩⟩
theorem fld_of {o : Option D} (h : o = some d) (q : Q (.val d)) : fldK o Q := ⟨d, h, q⟩
def errK (a : Addr) (o : Option D) (Q : RV → Prop) : RV → Prop := fun r => r = .val (.cls a) ∧ fldK o Q
theorem W_errK {a : Addr} {o : Option D} : errK a o Q (.val (.cls a)) = fldK o Q := propext ⟨fun h => h.2, fun h => ⟨rfl, h⟩⟩
def eErrO (a : Addr) (o : Option D) (fa : ED) : ED := fun env Q E => fa env (errK a o Q) E
theorem W_errO {a : Addr} {o : Option D} : eErrO a o fa env Q E = fa env (errK a o Q) E := rfl
theorem de_errO {a : Addr} {oe : Obj} {z : Exc} {d : Option Addr} (cy : Cy X g W) (E : ErrC X.K z.C) (O : ErrO oe z.C d) (hp : (a, oe) ∈ X.pn) (hno : PySem.W.findIn X.K (.ref z.C) n = some none) (hX : RepX g.K g.F0 z d)
    (ha : DE X g W ca e fa) (hb : attributeBase e n X.env (eval e X.env) = eval e X.env := by rfl) : DE X g W ca (.Attribute e n pos) (eErrO a ((z.ns.zip z.xs).lookup n) fa) := by
  have mono : MonoE (eErrO a ((z.ns.zip z.xs).lookup n) fa) := fun env Q Q' E E' hq he q => ha.mono env _ _ _ _ (fun r ⟨q1, dv, q2, q3⟩ => ⟨q1, dv, q2, hq _ q3⟩) he q
  cases hl : (z.ns.zip z.xs).lookup n with
  | none =>
    rw [hl] at mono
    refine ⟨PEimp (pe_err (pos := pos) E O hp hno ha.pe hb) fun σ H Q ⟨T, F, env, hT, ok, h⟩ => ?_, mono⟩
    refine run_e ok (by omega) ha.mono h (fun r hx F1 H1 v w o rr => ?_) (exE.shift ok.refl (by omega))
    obtain ⟨_, dv, q2, _⟩ := hx
    cases q2
  | some dv =>
    rw [hl] at mono
    have D1 := de_err (pos := pos) cy E O hp hno hX hl ha hb
    refine ⟨PEimp D1.pe fun σ H Q ⟨T, F, env, hT, ok, h⟩ => ⟨T, F, env, hT, ok, ha.mono env _ _ _ _ (fun r ⟨q1, dv', q2, q3⟩ => ?_) (fun x q => q) h⟩, mono⟩
    cases q2
    exact ⟨q1, q3⟩
end
end DL
namespace DL
open PySem PySem.Spec L2
inductive EK where
  | badName | repeatedName | unknownName | tooMany | wrongCount | badNumber | badSplit | clash | badText | badLine | badTelling | notInAll | notAlike | untold | badPlaces | badSpot | badParting | badPaper | unlikeNames | sameTree | noTree | severalTrees
deriving DecidableEq
def EK.cls : EK → Str
  | .badName => "BadName" | .repeatedName => "RepeatedName" | .unknownName => "UnknownName" | .tooMany => "TooMany" | .wrongCount => "WrongCount" | .badNumber => "BadNumber" | .badSplit => "BadSplit" | .clash => "Clash"
  | .badText => "BadText" | .badLine => "BadLine" | .badTelling => "BadTelling" | .notInAll => "NotInAll" | .notAlike => "NotAlike" | .untold => "Untold" | .badPlaces => "BadPlaces" | .badSpot => "BadSpot" | .badParting => "BadParting"
  | .badPaper => "BadPaper" | .unlikeNames => "UnlikeNames" | .sameTree => "SameTree" | .noTree => "NoTree" | .severalTrees => "SeveralTrees"
def EK.flds : EK → List Str
  | .badName => ["name"] | .repeatedName => ["name"] | .unknownName => ["name"] | .tooMany => ["most"] | .wrongCount => ["number"] | .badNumber => ["number"] | .badSplit => ["side"] | .clash => ["first", "second"]
  | .badText => ["at"] | .badLine => ["at"] | .badTelling => ["at"] | .notInAll => ["at"] | .notAlike => ["at"] | .untold => ["three"] | _ => []
structure Er where
  k : EK
  xs : List D
def Er.X (c : EK → Addr) (e : Er) : Exc := ⟨c e.k, e.k.flds.reverse, e.xs.reverse⟩
def Er.d (e : Er) : D := .tup (.str e.k.cls :: e.xs)
structure ClsF (K : PySem.W.Frag) (FE C : Addr) : Prop where
  T : OexC K C
  E : ErrC K C
  isC : PySem.W.isClsIn K C = true
  ss : PySem.W.subIn K (.ref C) (.ref C) = some true
  sf : PySem.W.subIn K (.ref C) (.ref FE) = some true
  sv : PySem.W.subIn K (.ref C) (.type "ValueError") = some true
structure BaseF (K : PySem.W.Frag) (FE : Addr) : Prop where
  isC : PySem.W.isClsIn K FE = true
  tyC : PySem.W.typeIn K (.ref FE) = some (.type "type")
  ex : PySem.W.subIn K (.ref FE) (.type "BaseException") = some true
section
variable {K : PySem.W.Frag} {FE C B : Addr}
theorem kitCls_ref {t : Value} {b : Bool} (iB : PySem.W.isClsIn K B = true) (tB : PySem.W.typeIn K (.ref B) = some (.type "type")) (h : PySem.W.subIn K t (.ref B) = some b) : PySem.W.kitCls K t (.ref B) = some b := by
  have e2 : ((PySem.W.clsIn K B).isSome && PySem.W.typeIn K (.ref B) == some (.type "type")) = true := by
    have h2' : (PySem.W.clsIn K B).isSome = true := iB
    rw [h2', tB] <;> rfl
  show (if ((PySem.W.clsIn K B).isSome && PySem.W.typeIn K (.ref B) == some (.type "type")) = true then PySem.W.subIn K t (.ref B) else none) = some b
  rw [if_pos e2]
  exact h
theorem exm_fe (c : ClsF K FE C) (b : BaseF K FE) : PySem.W.exmOne K (.ref C) (.ref FE) = some true := by
  have e1 : (PySem.W.subIn K (.ref FE) (.type "BaseException") == some true) = true := by rw [b.ex] <;> rfl
  show (if (PySem.W.subIn K (.ref FE) (.type "BaseException") == some true) = true then PySem.W.kitCls K (.ref C) (.ref FE) else none) = some true
  rw [if_pos e1]
  exact kitCls_ref b.isC b.tyC c.sf
theorem kit_one {b : Bool} (iB : PySem.W.isClsIn K B = true) (tB : PySem.W.typeIn K (.ref B) = some (.type "type")) (ss : PySem.W.subIn K (.ref C) (.ref C) = some true) (h : PySem.W.subIn K (.ref C) (.ref B) = some b) : errKit K C (.cls B) = some b := by
  show PySem.W.kitOne K (.ref C) (.ref B) = some b
  unfold PySem.W.kitOne
  by_cases e : C = B
  · subst e
    rw [ss] at h
    cases h
    rw [if_pos (by simp)]
  · rw [if_neg (by simpa using e)]
    exact kitCls_ref iB tB h
theorem kit_fe (c : ClsF K FE C) (b : BaseF K FE) : errKit K C (.cls FE) = some true := kit_one b.isC b.tyC c.ss c.sf
theorem kit_ve (c : ClsF K FE C) : errKit K C (.ty "ValueError") = some true := by
  show PySem.W.kitOne K (.ref C) (.type "ValueError") = some true
  unfold PySem.W.kitOne
  rw [if_neg (by simp)]
  show (if PySem.W.kitMeta "ValueError" = true then PySem.W.subIn K (.ref C) (.type "ValueError") else none) = some true
  rw [if_pos (by decide +kernel)]
  exact c.sv
theorem kit_pair {b : Bool} (c : ClsF K FE C) (c' : ClsF K FE B) (h : PySem.W.subIn K (.ref C) (.ref B) = some b) : errKit K C (.cls B) = some b := kit_one c'.isC c'.T.tyC c.ss h
end
def refF (c : EK → Addr) (kinds : List EK) (a : Addr) (z : Exc) : FD := fun rs Q _ => ∃ e : Er, e.k ∈ kinds ∧ e.xs.length = e.k.flds.length ∧ z = e.X c ∧ rs = [.val (.cls a)] ∧ Q (.val e.d)
theorem mono_refF {c : EK → Addr} {kinds : List EK} {a : Addr} {z : Exc} : MonoF (refF c kinds a z) := fun rs Q Q' E E' hq he ⟨e, h1, h2, h3, h4, h5⟩ => ⟨e, h1, h2, h3, h4, hq _ h5⟩
theorem ref_of {c : EK → Addr} {kinds : List EK} {a : Addr} {e : Er} {Q : RV → Prop} {E : Exc → Prop} (hk : e.k ∈ kinds) (hl : e.xs.length = e.k.flds.length) (q : Q (.val e.d)) : app (refF c kinds a (e.X c)) [.val (.cls a)] Q E := ⟨e, hk, hl, rfl, rfl, q⟩
theorem fnHp_none {P : Program} {w : World} {K : PySem.W.Frag} {mg : Str → Option Value} {base : Heap} {CX : CXT} {k : Nat} {f : Addr} {fd : FuncData} {ps : List Str} {sp : Sp} {p : Addr × Obj} (h : ∀ vs H Q E, ¬ sp vs H Q E) : FnHp P w K mg base CX k f fd ps sp p :=
  ⟨fun vs H Q E q => (h vs H Q E q).elim, fun A outer s H args us vs Q E _ _ _ _ _ _ q => (h vs H Q E q).elim⟩
theorem roomH_suite {k : Nat} {A : Around} {h : Option Value} (r : Room k A) : L2H.RoomH k (A.mark h) := ⟨r.dp, r.un⟩
end DL
namespace DL
open PySem PySem.Spec L2
def AllV (s : Str) : Prop := ∀ c ∈ s.cps.toList, c < 1114112
theorem allV_add {a b : Str} (h : AllV a) (k : AllV b) : AllV (a ++ b) := fun c m => by
  rw [app_list, List.mem_append] at m
  exact m.elim (h c) (k c)
theorem allV_cut {s : Str} {lo hi : Option Int} (h : AllV s) : AllV (cutS s lo hi) := fun c m => h c (cut_mem m)
theorem allV_rep {s : Str} {n : Nat} (h : AllV s) : AllV (repS s n) := fun c m => by
  have m' : c ∈ (List.replicate n s.cps.toList).flatten := by simpa [repS] using m
  obtain ⟨l, hl, hc⟩ := List.mem_flatten.mp m'
  rw [List.mem_replicate] at hl
  rw [hl.2] at hc
  exact h c hc
theorem allV_one {c : Nat} (h : c < 1114112) : AllV ⟨#[c]⟩ := fun d m => by
  have : d = c := by simpa using m
  rw [this]; exact h
def litV (s : Str) : Bool := s.cps.toList.all (· < 1114112)
theorem allV_lit {s : Str} (h : litV s = true) : AllV s := fun c m => by
  have := List.all_eq_true.mp h c m
  simpa using this
theorem allV_mem {s : Str} (h : litV s = true) {c : Nat} (m : c ∈ s.cps.toList) : AllV ⟨#[c]⟩ := allV_one (allV_lit h c m)
def LET : Str := Str.ofString "abcdefghijklmnopqrstuvwxyz"
def SIG : Str := Str.ofString "abcdefghijklmnopqrstuvwxyz0123456789"
def DIG : Str := Str.ofString "0123456789"
def SIG2 : Str := Str.ofString "abcdefghijklmnopqrstuvwxyz" ++ Str.ofString "0123456789"
theorem sig2_sig : ∀ c ∈ SIG2.cps.toList, c ∈ SIG.cps.toList := by decide +kernel
def firstIn (l : List Nat) : Bool := match l with | [] => false | c :: _ => decide (c ∈ LET.cps.toList)
def isNameS (s : Str) : Bool := decide (0 < s.length) && decide (s.length ≤ 8) && firstIn s.cps.toList && s.cps.toList.all fun c => decide (c ∈ SIG.cps.toList)
def isNameD : D → Bool
  | .str s => isNameS s
  | _ => false
theorem let_sig : ∀ c ∈ LET.cps.toList, c ∈ SIG.cps.toList := by decide +kernel
theorem name_len {s : Str} (h : isNameS s = true) : 0 < s.length ∧ s.length ≤ 8 := by
  simp only [isNameS, Bool.and_eq_true, decide_eq_true_eq] at h
  omega
theorem sig_ok : ∀ c ∈ SIG.cps.toList, c < 1114112 := by decide +kernel
theorem name_v {s : Str} (h : isNameS s = true) : AllV s := fun c m => by
  simp only [isNameS, Bool.and_eq_true, List.all_eq_true, decide_eq_true_eq] at h
  exact sig_ok c (h.2 c m)
abbrev SignsOk (s : Str) : Prop := firstIn s.cps.toList = true ∧ s.cps.toList.all (fun c => decide (c ∈ SIG.cps.toList)) = true
theorem name_signs {s : Str} (h : isNameS s = true) : SignsOk s := by
  simp only [isNameS, Bool.and_eq_true] at h
  exact ⟨h.1.2, h.2⟩
theorem name_add {s : Str} {c : Nat} (h : SignsOk s) (hc : c ∈ SIG.cps.toList) : SignsOk (s ++ ⟨#[c]⟩) := by
  refine ⟨?_, ?_⟩
  · rw [app_list]
    cases e : s.cps.toList with
    | nil => have := h.1; rw [e] at this; exact absurd this (by simp [firstIn])
    | cons a l => have := h.1; rw [e] at this; exact this
  · rw [app_list, List.all_append, h.2]
    simpa using hc
theorem name_one {c : Nat} (hc : c ∈ LET.cps.toList) : SignsOk ⟨#[c]⟩ := ⟨decide_eq_true hc, by simpa using let_sig c hc⟩
theorem isName_of {s : Str} (h0 : 0 < s.length) (h1 : s.length ≤ 8) (h : SignsOk s) : isNameS s = true := by
  unfold isNameS
  rw [decide_eq_true h0, decide_eq_true h1, h.1, h.2]
  rfl
theorem signs_cut {s : Str} {n : Nat} (hn : 0 < n) (h : SignsOk s) : SignsOk (cutS s none (some (n : Int))) := by
  have e : (cutS s none (some (n : Int))).cps.toList = s.cps.toList.take (min n s.length) := by
    unfold cutS
    simp only [HT.sIx_none, HT.sIx_nat, List.drop_zero, Nat.sub_zero, List.toList_toArray]
    try rfl
  refine ⟨?_, ?_⟩
  · rw [e]
    cases e2 : s.cps.toList with
    | nil => have := h.1; rw [e2] at this; exact absurd this (by simp [firstIn])
    | cons a l =>
      have l1 : s.length = l.length + 1 := by rw [← chars_len, e2]; rfl
      have := h.1
      rw [e2] at this
      obtain ⟨k, hk⟩ : ∃ k, min n s.length = k + 1 := ⟨min n s.length - 1, by omega⟩
      rw [hk]
      exact this
  · rw [e, List.all_eq_true]
    intro c hc
    exact List.all_eq_true.mp h.2 c (List.mem_of_mem_take hc)
theorem cut8 {s : Str} {n : Nat} {lo : Option Int} (h : s.length ≤ n) {hi : Option Int} : (cutS s lo hi).length ≤ n := Nat.le_trans (cutS_len _ _ _) h
theorem num_small {r : Int} (h0 : 0 ≤ r) (h1 : r < 10) : r.natAbs.log2 < 1920 ∧ (Str.ofString (toString r)).length ≤ 1 := by
  rcases (by omega : r = 0 ∨ r = 1 ∨ r = 2 ∨ r = 3 ∨ r = 4 ∨ r = 5 ∨ r = 6 ∨ r = 7 ∨ r = 8 ∨ r = 9) with rfl | rfl | rfl | rfl | rfl | rfl | rfl | rfl | rfl | rfl <;> decide +kernel
def BADS : Str := Str.ofString " !\"#$&'()*+,-./:;<=>?@ABCDEFGHIJKLMNOPQRSTUVWXYZ[\\]^_`{|}~\n"
def FlatD (d : D) : Prop := match d with
  | .non => True
  | .bl _ => True
  | .int _ => True
  | .str s => s.length ≤ 900 ∧ AllV s
  | _ => False
theorem name_flat {s : Str} (h : isNameS s = true) : FlatD (.str s) := ⟨by have := name_len h; omega, name_v h⟩
def AskD (d : D) : Prop := match d with
  | .non => True
  | .bl _ => True
  | .int _ => True
  | .str s => s.length ≤ 5000
  | .tup _ => True
  | .lst _ => True
  | _ => False
theorem flat_ask {d : D} (h : FlatD d) : AskD d := by
  cases d <;> first | exact trivial | exact h | skip
  have := h.1
  show _ ≤ _
  omega
theorem str_len0 {s : Str} (z : s.length = 0) : s = Str.ofString "" := by
  have e : s.cps.toList = [] := List.eq_nil_of_length_eq_zero (by rw [chars_len, z])
  exact str_of_list e
theorem first_of {s : Str} (l3 : 0 < s.length) : ∃ c0 l, s.cps.toList = c0 :: l := by
  cases e : s.cps.toList with
  | nil => rw [← chars_len, e] at l3; exact absurd l3 (by simp)
  | cons a l => exact ⟨a, l, rfl⟩
def seqD : D → Option (List D)
  | .lst xs => some xs
  | .tup xs => some xs
  | _ => none
theorem flatD_flat {d : D} (h : FlatD d) : ∃ v, flat d = some v := by
  cases d <;> first | exact ⟨_, rfl⟩ | exact h.elim
theorem flats_of : ∀ {ds : List D}, (∀ d ∈ ds, FlatD d) → ∃ vs, flats ds = some vs
  | [], _ => ⟨[], rfl⟩
  | d :: ds, h => by
    obtain ⟨v, e⟩ := flatD_flat (h d List.mem_cons_self)
    obtain ⟨vs, e2⟩ := flats_of fun x m => h x (List.mem_cons_of_mem _ m)
    exact ⟨v :: vs, by unfold flats; rw [e, e2]⟩
theorem eqV_str (s t : Str) : eqV (.str s) (.str t) = decide (s = t) := by
  simp only [eqV]
  rfl
theorem inV_strs (s : Str) : ∀ (ss : List Str), inV (.str s) (ss.map V.str) = decide (s ∈ ss)
  | [] => rfl
  | t :: ss => by
    show (eqV (.str t) (.str s) || inV (.str s) (ss.map V.str)) = _
    rw [inV_strs s ss, eqV_str, ← Bool.decide_or]
    exact decide_eq_decide.mpr (by rw [List.mem_cons]; exact or_congr eq_comm Iff.rfl)
def dueD : Option Er → D
  | none => .non
  | some e => e.d
def badOf (ds : List D) : Option D := ds.find? fun d => !isNameD d
def repOf : List Str → List Str → Option Str
  | _, [] => none
  | seen, s :: ss => if s ∈ seen then some s else repOf (seen ++ [s]) ss
def strsD (ds : List D) : List Str := ds.filterMap fun d => match d with | .str s => some s | _ => none
def namesDue (ds : List D) : Option Er := match badOf ds with
  | some d => some ⟨.badName, [d]⟩
  | none => match repOf [] (strsD ds) with
    | some s => some ⟨.repeatedName, [.str s]⟩
    | none => if 12 < ds.length then some ⟨.tooMany, [.int 12]⟩ else none
end DL
namespace DL
open PySem PySem.Spec L2
section
variable {Q : RV → Prop} {E : Exc → Prop}
def onceF : FD := fun rs Q _ => ∃ n : Int, rs = [.sto, .val (.int n)] ∧ n < 1073741824 ∧ ∀ b : Bool, Q (.val (.bl b))
theorem mono_onceF : MonoF onceF := fun rs Q Q' E E' hq he ⟨n, h1, h2, h3⟩ => ⟨n, h1, h2, fun b => hq _ (h3 b)⟩
theorem once_of {n : Int} (hn : n < 1073741824) (h : ∀ b : Bool, Q (.val (.bl b))) : app onceF [.sto, .val (.int n)] Q E := ⟨n, rfl, hn, h⟩
def pickF : FD := fun rs Q _ => ∃ d, rs = [.sto, .val d] ∧ ((∃ s : Str, d = .str s ∧ 0 < s.length ∧ s.length ≤ 100000 ∧ ∀ c ∈ s.cps.toList, Q (.val (.str ⟨#[c]⟩))) ∨
  (∃ ds, (d = .lst ds ∨ d = .tup ds) ∧ 0 < ds.length ∧ ds.length ≤ 100000 ∧ ∀ e ∈ ds, Q (.val e)))
theorem mono_pickF : MonoF pickF := fun rs Q Q' E E' hq he ⟨d, h1, h2⟩ => ⟨d, h1, h2.imp (fun ⟨s, a, b, c, e⟩ => ⟨s, a, b, c, fun x m => hq _ (e x m)⟩) (fun ⟨s, a, b, c, e⟩ => ⟨s, a, b, c, fun x m => hq _ (e x m)⟩)⟩
theorem pick_str {s : Str} (h0 : 0 < s.length) (h1 : s.length ≤ 100000) (h : ∀ c ∈ s.cps.toList, Q (.val (.str ⟨#[c]⟩))) : app pickF [.sto, .val (.str s)] Q E := ⟨_, rfl, .inl ⟨_, rfl, h0, h1, h⟩⟩
theorem pick_lst {ds : List D} (h0 : 0 < ds.length) (h1 : ds.length ≤ 100000) (h : ∀ c ∈ ds, Q (.val c)) : app pickF [.sto, .val (.lst ds)] Q E := ⟨_, rfl, .inr ⟨_, .inl rfl, h0, h1, h⟩⟩
theorem pick_tup {ds : List D} (h0 : 0 < ds.length) (h1 : ds.length ≤ 100000) (h : ∀ c ∈ ds, Q (.val c)) : app pickF [.sto, .val (.tup ds)] Q E := ⟨_, rfl, .inr ⟨_, .inr rfl, h0, h1, h⟩⟩
theorem pick_seq {d : D} {ds : List D} (hd : seqD d = some ds) (h0 : 0 < ds.length) (h1 : ds.length ≤ 100000) (h : ∀ c ∈ ds, Q (.val c)) : app pickF [.sto, .val d] Q E := by
  cases d <;> simp only [seqD, Option.some.injEq, reduceCtorEq] at hd <;> subst hd
  · exact pick_tup h0 h1 h
  · exact pick_lst h0 h1 h
def numberF : FD := fun rs Q _ => ∃ lo hi : Int, rs = [.sto, .val (.int lo), .val (.int hi)] ∧ hi - lo < 1073741823 ∧ ∀ r : Int, lo ≤ r → (r ≤ hi ∨ r = lo) → Q (.val (.int r))
theorem mono_numberF : MonoF numberF := fun rs Q Q' E E' hq he ⟨n, m, h1, h2, h3⟩ => ⟨n, m, h1, h2, fun b x y => hq _ (h3 b x y)⟩
theorem number_of {lo hi : Int} (h0 : lo ≤ hi) (h1 : hi - lo < 1073741823) (h : ∀ r : Int, lo ≤ r → r ≤ hi → Q (.val (.int r))) : app numberF [.sto, .val (.int lo), .val (.int hi)] Q E := ⟨lo, hi, rfl, h1, fun r a b => h r a (by omega)⟩
def nameF : FD := fun rs Q _ => rs = [.sto] ∧ ∀ s, isNameS s = true → Q (.val (.str s))
theorem mono_nameF : MonoF nameF := fun rs Q Q' E E' hq he ⟨h1, h2⟩ => ⟨h1, fun s a => hq _ (h2 s a)⟩
theorem name_of (h : ∀ s, isNameS s = true → Q (.val (.str s))) : app nameF [.sto] Q E := ⟨rfl, h⟩
def badnameF : FD := fun rs Q _ => rs = [.sto] ∧ ∀ d, FlatD d → Q (.val d)
theorem mono_badnameF : MonoF badnameF := fun rs Q Q' E E' hq he ⟨h1, h2⟩ => ⟨h1, fun s a => hq _ (h2 s a)⟩
theorem badname_of (h : ∀ d, FlatD d → Q (.val d)) : app badnameF [.sto] Q E := ⟨rfl, h⟩
def isnameF : FD := fun rs Q _ => ∃ d, rs = [.val d] ∧ AskD d ∧ Q (.val (.bl (isNameD d)))
theorem mono_isnameF : MonoF isnameF := fun rs Q Q' E E' hq he ⟨d, h1, h2, h3⟩ => ⟨d, h1, h2, hq _ h3⟩
theorem isname_of {d : D} (h : AskD d) (q : Q (.val (.bl (isNameD d)))) : app isnameF [.val d] Q E := ⟨d, rfl, h, q⟩
def shuffledF : FD := fun rs Q _ => ∃ d ds, rs = [.sto, .val d] ∧ seqD d = some ds ∧ ds.length ≤ 900 ∧ ∀ ys : List D, ys.Perm ds → Q (.own ys)
theorem mono_shuffledF : MonoF shuffledF := fun rs Q Q' E E' hq he ⟨d, ds, h1, h2, h3, h4⟩ => ⟨d, ds, h1, h2, h3, fun ys p => hq _ (h4 ys p)⟩
theorem shuffled_of {d : D} {ds : List D} (hd : seqD d = some ds) (hl : ds.length ≤ 900) (h : ∀ ys : List D, ys.Perm ds → Q (.own ys)) : app shuffledF [.sto, .val d] Q E := ⟨d, ds, rfl, hd, hl, h⟩
def passedF : FD := fun rs Q _ => ∃ d ds, rs = [.sto, .val d] ∧ seqD d = some ds ∧ ds.length ≤ 900 ∧ ∀ ys : List D, ys.Perm ds → Q (.own ys) ∧ Q (.val (.tup ys))
theorem mono_passedF : MonoF passedF := fun rs Q Q' E E' hq he ⟨d, ds, h1, h2, h3, h4⟩ => ⟨d, ds, h1, h2, h3, fun ys p => ⟨hq _ (h4 ys p).1, hq _ (h4 ys p).2⟩⟩
theorem passed_of {d : D} {ds : List D} (hd : seqD d = some ds) (hl : ds.length ≤ 900) (h : ∀ ys : List D, ys.Perm ds → Q (.own ys) ∧ Q (.val (.tup ys))) : app passedF [.sto, .val d] Q E := ⟨d, ds, rfl, hd, hl, h⟩
def fewF : FD := fun rs Q _ => ∃ d ds, ∃ n : Int, rs = [.sto, .val d, .val (.int n)] ∧ seqD d = some ds ∧ ds.length ≤ 900 ∧ (n ≤ 1000 ∧ -1000 ≤ n) ∧ ∀ ys zs : List D, (ys ++ zs).Perm ds → (0 ≤ n → n ≤ ds.length → (ys.length : Int) = n) → Q (.own ys)
theorem mono_fewF : MonoF fewF := fun rs Q Q' E E' hq he ⟨d, ds, n, h1, h2, h3, h5, h4⟩ => ⟨d, ds, n, h1, h2, h3, h5, fun ys zs p l => hq _ (h4 ys zs p l)⟩
theorem few_of {d : D} {ds : List D} {n : Int} (hd : seqD d = some ds) (hl : ds.length ≤ 900) (hn : n ≤ 1000 ∧ -1000 ≤ n) (h : ∀ ys zs : List D, (ys ++ zs).Perm ds → (0 ≤ n → n ≤ ds.length → (ys.length : Int) = n) → Q (.own ys)) : app fewF [.sto, .val d, .val (.int n)] Q E := ⟨d, ds, n, rfl, hd, hl, hn, h⟩
def strangeF : FD := fun rs Q _ => ∃ d, ∃ ss : List Str, rs = [.sto, .val d] ∧ seqD d = some (ss.map D.str) ∧ ss.length ≤ 90 ∧ (∀ s ∈ ss, isNameS s = true) ∧ ∀ s, isNameS s = true → s ∉ ss → Q (.val (.str s))
theorem mono_strangeF : MonoF strangeF := fun rs Q Q' E E' hq he ⟨d, ss, h1, h2, h3, h4, h5⟩ => ⟨d, ss, h1, h2, h3, h4, fun s a b => hq _ (h5 s a b)⟩
theorem strange_of {d : D} {ss : List Str} (hd : seqD d = some (ss.map D.str)) (hl : ss.length ≤ 90) (hn : ∀ s ∈ ss, isNameS s = true) (h : ∀ s, isNameS s = true → s ∉ ss → Q (.val (.str s))) : app strangeF [.sto, .val d] Q E := ⟨d, ss, rfl, hd, hl, hn, h⟩
def NamesOk (ss : List Str) : Prop := (∀ s ∈ ss, isNameS s = true) ∧ ss.Nodup
def namesF : FD := fun rs Q _ => ∃ n : Int, rs = [.sto, .val (.int n)] ∧ 0 ≤ n ∧ n ≤ 15 ∧ ∀ ss : List Str, NamesOk ss → sortS ss = ss → (ss.length : Int) = n → Q (.own (ss.map D.str))
theorem mono_namesF : MonoF namesF := fun rs Q Q' E E' hq he ⟨n, h1, h2, h3, h4⟩ => ⟨n, h1, h2, h3, fun ss a b c => hq _ (h4 ss a b c)⟩
theorem names_of {n : Int} (h0 : 0 ≤ n) (h1 : n ≤ 15) (h : ∀ ss : List Str, NamesOk ss → sortS ss = ss → (ss.length : Int) = n → Q (.own (ss.map D.str))) : app namesF [.sto, .val (.int n)] Q E := ⟨n, rfl, h0, h1, h⟩
def bentF : FD := fun rs Q _ => ∃ d ds, rs = [.sto, .val d] ∧ seqD d = some ds ∧ ds.length ≤ 20 ∧ (∀ e ∈ ds, FlatD e) ∧ ∀ ys : List D, ys.length ≤ 60 → (∀ e ∈ ys, FlatD e) → Q (.own ys)
theorem mono_bentF : MonoF bentF := fun rs Q Q' E E' hq he ⟨d, ds, h1, h2, h3, h4, h5⟩ => ⟨d, ds, h1, h2, h3, h4, fun s a b => hq _ (h5 s a b)⟩
theorem bent_of {d : D} {ds : List D} (hd : seqD d = some ds) (hl : ds.length ≤ 20) (hf : ∀ e ∈ ds, FlatD e) (h : ∀ ys : List D, ys.length ≤ 60 → (∀ e ∈ ys, FlatD e) → Q (.own ys)) : app bentF [.sto, .val d] Q E := ⟨d, ds, rfl, hd, hl, hf, h⟩
def namesdueF : FD := fun rs Q _ => ∃ d ds, rs = [.val d] ∧ seqD d = some ds ∧ ds.length ≤ 900 ∧ (∀ e ∈ ds, FlatD e) ∧ Q (.val (dueD (namesDue ds)))
theorem mono_namesdueF : MonoF namesdueF := fun rs Q Q' E E' hq he ⟨d, ds, h1, h2, h3, h4, h5⟩ => ⟨d, ds, h1, h2, h3, h4, hq _ h5⟩
theorem namesdue_of {d : D} {ds : List D} (hd : seqD d = some ds) (hl : ds.length ≤ 900) (hf : ∀ e ∈ ds, FlatD e) (h : Q (.val (dueD (namesDue ds)))) : app namesdueF [.val d] Q E := ⟨d, ds, rfl, hd, hl, hf, h⟩
def partS (neg : Bool) (one two : List Str) : List Str := one.filter fun s => if neg then decide (s ∉ two) else decide (s ∈ two)
def DeepD : Nat → D → Prop
  | 0, _ => False
  | n + 1, d => match d with
    | .non => True
    | .bl _ => True
    | .int _ => True
    | .str s => s.length ≤ 900
    | .tup ds => ds.length ≤ 1000 ∧ ∀ e ∈ ds, DeepD n e
    | .lst ds => ds.length ≤ 1000 ∧ ∀ e ∈ ds, DeepD n e
    | _ => False
def copiedF : Nat → FD := fun n rs Q _ => ∃ d, rs = [.val d] ∧ DeepD n d ∧ (match d with | .lst ds => Q (.own ds) | d => Q (.val d))
theorem mono_copiedF (n : Nat) : MonoF (copiedF n) := fun rs Q Q' E E' hq he ⟨d, h1, h2, h3⟩ => ⟨d, h1, h2, by
  split at h3
  · exact hq _ h3
  · exact hq _ h3⟩
theorem fnok_no {P : Program} {w : World} {K : PySem.W.Frag} {mg : Str → Option Value} {base : Heap} {CX : CXT} {k n : Nat} {f : Addr} {fd : FuncData} {ps : List Str} {fn : FD} (h : ∀ rs Q E, fn rs Q E → False) : FnOk P w K mg base CX k f fd ps (spD K n fn) :=
  ⟨fun _ _ _ _ ⟨_, _, _, _, _, _, _, z⟩ => (h _ _ _ z).elim, fun _ _ _ _ _ _ _ _ _ _ _ _ _ ⟨_, _, _, _, _, _, _, z⟩ => (h _ _ _ z).elim⟩
theorem copied_of {n : Nat} {d : D} (h : DeepD n d) (q : ∀ r, (r = .val d ∨ ∃ ds, d = .lst ds ∧ r = .own ds) → Q r) : app (copiedF n) [.val d] Q E := ⟨d, rfl, h, by
  split
  · rename_i ds
    exact q _ (.inr ⟨ds, rfl, rfl⟩)
  · exact q _ (.inl rfl)⟩
theorem copy_id (ds : List D) : [] ++ (ds.filter fun _ => true).map id = ds := by
  rw [List.nil_append, List.map_id, List.filter_eq_self.mpr (fun _ _ => rfl)]
def sameF : Nat → FD := fun n rs Q _ => ∃ d, rs = [.val d, .val d] ∧ DeepD n d ∧ Q (.val (.bl true))
theorem mono_sameF (n : Nat) : MonoF (sameF n) := fun rs Q Q' E E' hq he ⟨d, h1, h2, h3⟩ => ⟨d, h1, h2, hq _ h3⟩
theorem same_of {n : Nat} {d e : D} (h : DeepD n d) (he : d = e) (q : Q (.val (.bl true))) : app (sameF n) [.val d, .val e] Q E := by
  subst he
  exact ⟨d, rfl, h, q⟩
theorem flat_deep {n : Nat} {d : D} (h : FlatD d) : DeepD (n + 1) d := by
  cases d <;> first | exact trivial | exact h.1 | exact h.elim
def checkF (c : EK → Addr) : FD := fun rs Q E => ∃ d, rs = [.val d] ∧ AskD d ∧ (isNameD d = true → Q (.val .non)) ∧ (isNameD d = false → E (Er.X c ⟨.badName, [d]⟩))
theorem mono_checkF {c : EK → Addr} : MonoF (checkF c) := fun rs Q Q' E E' hq he ⟨d, h1, h2, h3, h4⟩ => ⟨d, h1, h2, fun z => hq _ (h3 z), fun z => he _ (h4 z)⟩
theorem check_of {c : EK → Addr} {d : D} (h : AskD d) (h1 : isNameD d = true → Q (.val .non)) (h2 : isNameD d = false → E (Er.X c ⟨.badName, [d]⟩)) : app (checkF c) [.val d] Q E := ⟨d, rfl, h, h1, h2⟩
def toldK (c : EK → Addr) (o : Option Er) (Q : Prop) (E : Exc → Prop) : Prop := match o with
  | none => Q
  | some e => E (e.X c)
theorem toldK_mono {c : EK → Addr} {o : Option Er} {P P' : Prop} {E E' : Exc → Prop} (hp : P → P') (he : ∀ x, E x → E' x) (h : toldK c o P E) : toldK c o P' E' := by
  cases o with
  | none => exact hp h
  | some e => exact he _ h
def nametupF (c : EK → Addr) : FD := fun rs Q E => ∃ d ds, rs = [.val d] ∧ seqD d = some ds ∧ ds.length ≤ 900 ∧ (∀ e ∈ ds, FlatD e) ∧ toldK c (namesDue ds) (Q (.val (.tup ((sortS (strsD ds)).map D.str)))) E
theorem mono_nametupF {c : EK → Addr} : MonoF (nametupF c) := fun rs Q Q' E E' hq he ⟨d, ds, h1, h2, h3, h4, h5⟩ => ⟨d, ds, h1, h2, h3, h4, toldK_mono (hq _) he h5⟩
theorem nametup_of {c : EK → Addr} {d : D} {ds : List D} (hd : seqD d = some ds) (hl : ds.length ≤ 900) (hf : ∀ e ∈ ds, FlatD e) (h : toldK c (namesDue ds) (Q (.val (.tup ((sortS (strsD ds)).map D.str)))) E) : app (nametupF c) [.val d] Q E := ⟨d, ds, rfl, hd, hl, hf, h⟩
end
end DL
namespace DL
open PySem PySem.Spec L2
section
variable {X : Cx} {g : G} {W : WX} {ca cb n : Nat} {sa sb : SD} {s : Stmt} {ss : List Stmt} {fa : ED} {fs fr : AD} {A : DEn} {env : En}
def cutK (sa sb : SD) (A : DEn) (env : En) (_u : Fx (sa, sb, A, env) := ()) : Prop := ∃ I : En → Prop, sa { A with nx := I } env ∧ ∀ e, I e → sb A e
def sCut (sa sb : SD) : SD := fun A env => cutK sa sb A env
theorem dss_cut (ha : DS X g W ca s sa) (hb : DSs X g W cb ss sb) : DSs X g W (ca + cb) (s :: ss) (sCut sa sb) := by
  have d := dss_cons ha hb
  refine ⟨PSsimp d.ps fun D σ H ⟨T, F, env, hT, ok, I, h1, h2⟩ => ⟨T, F, env, hT, ok, ha.mono { (enS g W (T + (ca + cb)) F D) with nx := I } { (enS g W (T + (ca + cb)) F D) with nx := sb (enS g W (T + (ca + cb)) F D) } env ⟨fun e q => h2 e q, fun r q => q, fun e q => q, fun e q => q, fun e x q => q⟩ h1⟩, fun A B env l ⟨I, h1, h2⟩ => ⟨I, ha.mono { A with nx := I } { B with nx := I } env ⟨fun e q => q, l.rt, l.bk, l.ct, l.ex⟩ h1, fun e q => hb.mono _ _ _ l (h2 e q)⟩⟩
theorem W_cut : sCut sa sb A env = cutK sa sb A env := rfl
theorem cut_of (I : En → Prop) (h1 : sa { A with nx := I } env) (h2 : ∀ e, I e → sb A e) : cutK sa sb A env := ⟨I, h1, h2⟩
theorem mono_sRet (h : MonoE fa) : MonoS (sRet fa) := fun A B env l q => h env _ _ _ _ (fun r q => l.rt _ q) (fun x q => l.ex _ _ q) q
theorem mono_sExpr (h : MonoE fa) : MonoS (sExpr fa) := fun A B env l q => h env _ _ _ _ (fun r q => l.nx _ q) (fun x q => l.ex _ _ q) q
theorem mono_sMut {i : Nat} {q : QM} (mq : MonoM q) (h : MonoE fs) : MonoS (sMut i q fs) := fun A B env l ⟨xs, e1, q⟩ => ⟨xs, e1, h env _ _ _ _ (fun rs q => mq _ _ _ _ (fun ys q => l.nx _ q) q) (fun x q => l.ex _ _ q) q⟩
theorem mono_eTup (h : MonoE fs) : MonoE (eTup fs) := fun env Q Q' E E' hq he q => h env _ _ _ _ (fun rs ⟨ds, h1, h2, q⟩ => ⟨ds, h1, h2, hq _ q⟩) he q
theorem mono_frz (h : MonoE fa) : MonoE (frz fa) := fun env Q Q' E E' hq he q => h env _ _ _ _ (fun r q => by
  cases r with
  | own xs => exact hq _ q
  | val d => exact hq _ q
  | bor xs => exact hq _ q
  | sto => exact hq _ q) he q
theorem mono_aNil : MonoE aNil := fun env Q Q' E E' hq he q => hq _ q
theorem mono_aCons (h : MonoE fa) (hr : MonoE fr) : MonoE (aCons fa fr) := fun env Q Q' E E' hq he q => mono_frz h env _ _ _ _ (fun x hx => hr env _ _ _ _ (fun y hy => hq _ hy) he hx) he q
theorem mono_eC {d : D} : MonoE (eC d) := fun env Q Q' E E' hq he q => hq _ q
theorem mono_eVar {i : Nat} : MonoE (eVar i) := fun env Q Q' E E' hq he q => by
  unfold eVar at q ⊢
  split
  · rename_i d e; rw [e] at q; exact hq _ q
  · rename_i d e; rw [e] at q; exact hq _ q
  · rename_i e; rw [e] at q; exact hq _ q
  · rename_i h1 h2 h3
    revert q
    split
    · rename_i d e; exact absurd e (h1 d)
    · rename_i d e; exact absurd e (h2 d)
    · rename_i e; exact absurd e h3
    · exact id
theorem mono_eFn {fn : FD} (mf : MonoF fn) (h : MonoE fs) : MonoE (eFn n fn fs) := fun env Q Q' E E' hq he q => h env _ _ _ _ (fun rs q => ⟨q.1, q.2.1, mf _ _ _ _ _ hq he q.2.2⟩) he q
theorem mono_sNil : MonoS sNil := fun A B env l q => l.nx _ q
end
def storeSp (K : PySem.W.Frag) : Sp := fun vs H Q _ => ∃ (a : Addr) (ns : List Int), vs = [.ref a] ∧ SqL K H a (ns.map V.int) ∧ ns.length ≤ 63 ∧ ∀ (H' : Hp) (st c : Addr) (sd : Int), Evl.Ex H H' → H st = none → H c = none → c ≠ st → H' st = some (.lst [.ref c, .int 0, .int 0, .int sd, .int 0]) → H' c = some (.lst (ns.map V.int)) → 0 ≤ sd → sd < 2147483648 → Q (.ref st) H'
def spLaw (K : PySem.W.Frag) : Sp := fun vs H Q _ => ∃ (a : Addr) (ns : List Int), vs = [.ref a] ∧ SqL K H a (ns.map V.int) ∧ ns.length ≤ 63 ∧ ∀ H', Q (.bl true) H'
def startL (m : Nat) : En := none :: some .sto :: List.replicate m none
theorem ok_startL {K : PySem.W.Frag} {st c a : Addr} {H : Hp} {ns : List Int} {sd : Int} {o : Obj} {m : Nat} (y1 : H st = some (.lst [.ref c, .int 0, .int 0, .int sd, .int 0])) (y2 : H c = some (.frz o (.lst (ns.map V.int)))) (nc : c ≠ st) (hl : ns.length ≤ 63) (s0 : 0 ≤ sd) (s1 : sd < 2147483648) :
    Ok ⟨K, st, but st H, H⟩ 0 (but st H) (startL m) (some (.ref a) :: some (.ref st) :: List.replicate m none) H := by
  have sA : StoreAt K st 0 (but st H) H := ⟨but_st, c, ns, 0, 0, sd, 0, y1, ⟨o, by rw [but_ne nc]; exact y2⟩, hl, Int.le_refl _, Int.le_refl _, s0, s1, Int.le_refl _⟩
  have g0 : ∀ {i : Nat} {z : SV}, (startL m)[i]? = some (some z) → i = 1 ∧ z = .sto := by
    intro i z q
    match i, q with
    | 0, q => simp [startL] at q
    | 1, q => exact ⟨rfl, by simpa [startL] using q.symm⟩
    | n + 2, q =>
      unfold startL at q
      rw [List.getElem?_cons_succ, List.getElem?_cons_succ, List.getElem?_replicate] at q
      split at q <;> simp at q
  refine ⟨Grow.refl but_ex but_st, sA, by simp [startL], fun i d q => ?_, fun i q => ?_, fun i xs q => ?_, fun i j xs ys _ q => ?_⟩
  · exact nomatch (g0 q).2
  · obtain ⟨rfl, _⟩ := g0 q
    rfl
  · exact nomatch (g0 q).2
  · exact nomatch (g0 q).2
theorem W_startL {m : Nat} : startL m = none :: some .sto :: List.replicate m none := rfl
theorem ixN_at {n j : Nat} (h : j < n) : ixN n (j : Int) = some j := by
  unfold ixN
  rw [if_pos (by omega), if_pos (by omega)]
  simp
theorem setK_at {n j : Nat} {P : Nat → Prop} (h : j < n) (q : P j) : setK (ixN n (j : Int)) P := ⟨j, ixN_at h, q⟩
theorem cutD_take {xs : List D} {m : Int} (h : 0 ≤ m) : cutD xs none (some m) = xs.take m.toNat := by
  obtain ⟨n, rfl⟩ : ∃ n : Nat, m = n := ⟨m.toNat, (Int.toNat_of_nonneg h).symm⟩
  unfold cutD
  rw [HT.sIx_none, HT.sIx_nat, List.drop_zero, Nat.sub_zero, Int.toNat_natCast]
  by_cases c : n ≤ xs.length
  · rw [Nat.min_eq_left c]
  · rw [Nat.min_eq_right (by omega), List.take_length, List.take_of_length_le (by omega)]
end DL
namespace DL
open PySem PySem.Spec L2
theorem num_v {r : Int} (h0 : 0 ≤ r) (h1 : r < 10) : AllV (Str.ofString (toString r)) := by
  rcases (by omega : r = 0 ∨ r = 1 ∨ r = 2 ∨ r = 3 ∨ r = 4 ∨ r = 5 ∨ r = 6 ∨ r = 7 ∨ r = 8 ∨ r = 9) with rfl | rfl | rfl | rfl | rfl | rfl | rfl | rfl | rfl | rfl <;> exact allV_lit (by decide +kernel)
def sigB (d : D) : D := match d with
  | .str s => .bl (decide (s.cps.toList.headD 0 ∈ SIG.cps.toList))
  | _ => .non
theorem sig_map (l : List Nat) : [] ++ ((l.map fun c => D.str ⟨#[c]⟩).filter (fun _ => true)).map sigB = (l.map fun c => decide (c ∈ SIG.cps.toList)).map D.bl := by
  rw [List.nil_append, List.filter_eq_self.mpr (fun _ _ => rfl), List.map_map, List.map_map]
  rfl
end DL
namespace DL
open PySem PySem.Spec L2
theorem in_strs {g : Bool} {s : Str} {ss : List Str} {Q : RV → Prop} (h : Q (.val (.bl (if g then decide (s ∉ ss) else decide (s ∈ ss))))) : inK g (.str s) (ss.map D.str) Q := by
  refine ⟨.str s, ss.map V.str, rfl, flats_strs ss, ?_⟩
  rw [inV_strs]
  cases g
  · exact h
  · simpa using h
theorem sig_iff (c : Nat) : c ∈ SIG.cps.toList ↔ c ∈ DIG.cps.toList ∨ c ∈ LET.cps.toList := by
  have e : SIG.cps.toList = LET.cps.toList ++ DIG.cps.toList := by decide +kernel
  rw [e, List.mem_append]
  exact or_comm
theorem isn_bad0 {s : Str} {c : Nat} (e : s.cps.toList[0]? = some c) (h : c ∉ LET.cps.toList) : isNameS s = false := by
  unfold isNameS
  cases el : s.cps.toList with
  | nil => rw [el] at e; cases e
  | cons a l =>
    rw [el] at e
    cases e
    have f2 : firstIn (c :: l) = false := decide_eq_false h
    rw [f2, Bool.and_false, Bool.false_and]
theorem isn_bad {s : Str} {c : Nat} (m : c ∈ s.cps.toList) (h : c ∉ SIG.cps.toList) : isNameS s = false := by
  unfold isNameS
  have : (s.cps.toList.all fun c => decide (c ∈ SIG.cps.toList)) = false := by
    refine Bool.eq_false_iff.mpr fun z => h ?_
    simpa using List.all_eq_true.mp z c m
  rw [this, Bool.and_false]
theorem isn_good {s : Str} (l0 : 0 < s.length) (l1 : s.length ≤ 8) (h : ∀ (j c : Nat), s.cps.toList[j]? = some c → c ∈ SIG.cps.toList ∧ (j = 0 → c ∈ LET.cps.toList)) : isNameS s = true := by
  refine isName_of l0 l1 ⟨?_, ?_⟩
  · obtain ⟨c0, l, el⟩ := first_of l0
    rw [el]
    exact decide_eq_true ((h 0 c0 (by rw [el]; rfl)).2 rfl)
  · rw [List.all_eq_true]
    intro c m
    obtain ⟨j, hj⟩ := List.mem_iff_getElem?.mp m
    exact decide_eq_true (h j c hj).1
theorem isn_short {s : Str} (h : s.length < 1) : isNameS s = false := by
  unfold isNameS
  rw [decide_eq_false (by omega)]
  rfl
theorem isn_long {s : Str} (h : 8 < s.length) : isNameS s = false := by
  unfold isNameS
  rw [decide_eq_false (p := s.length ≤ 8) (by omega), Bool.and_false]
  rfl
theorem find_at {α : Type} {p : α → Bool} : ∀ {l : List α} {i : Nat} {a : α}, l[i]? = some a → p a = true → (∀ (j : Nat) b, j < i → l[j]? = some b → p b = false) → l.find? p = some a
  | [], _, _, h, _, _ => by simp at h
  | b :: l, 0, a, h, hp, _ => by
    simp at h
    subst h
    rw [List.find?_cons_of_pos hp]
  | b :: l, i + 1, a, h, hp, hn => by
    rw [List.find?_cons_of_neg (by rw [hn 0 b (by omega) rfl]; decide)]
    exact find_at (by simpa using h) hp fun j c hj hc => hn (j + 1) c (by omega) (by simpa using hc)
theorem repOf_at : ∀ (ss seen : List Str) (i : Nat) (s : Str), ss[i]? = some s → (∀ (j : Nat) t, j < i → ss[j]? = some t → t ∉ seen ++ ss.take j) → s ∈ seen ++ ss.take i → repOf seen ss = some s
  | [], _, _, _, h, _, _ => by simp at h
  | t :: ss, seen, 0, s, h, _, hs => by
    simp at h
    subst h
    unfold repOf
    rw [if_pos (by simpa using hs)]
  | t :: ss, seen, i + 1, s, h, hn, hs => by
    unfold repOf
    rw [if_neg (by simpa using hn 0 t (by omega) rfl)]
    refine repOf_at ss (seen ++ [t]) i s (by simpa using h) (fun j u hj hu => ?_) ?_
    · have := hn (j + 1) u (by omega) (by simpa using hu)
      simpa using this
    · simpa using hs
theorem repOf_no : ∀ (ss seen : List Str), (∀ (j : Nat) t, ss[j]? = some t → t ∉ seen ++ ss.take j) → repOf seen ss = none
  | [], _, _ => rfl
  | t :: ss, seen, hn => by
    unfold repOf
    rw [if_neg (by simpa using hn 0 t rfl)]
    refine repOf_no ss (seen ++ [t]) (fun j u hu => ?_)
    have := hn (j + 1) u (by simpa using hu)
    simpa using this
theorem nodup_of_rep {ss : List Str} (h : ∀ (j : Nat) t, ss[j]? = some t → t ∉ ss.take j) : ss.Nodup := by
  rw [List.nodup_iff_pairwise_ne, List.pairwise_iff_getElem]
  intro i j hi hj hij e
  refine h j ss[j] (List.getElem?_eq_getElem hj) ?_
  rw [← e, List.mem_iff_getElem?]
  exact ⟨i, by rw [List.getElem?_take_of_lt hij]; exact List.getElem?_eq_getElem hi⟩
theorem rep_of_nodup {ss : List Str} (h : ss.Nodup) : ∀ (j : Nat) t, ss[j]? = some t → t ∉ ss.take j := by
  intro j t hj m
  obtain ⟨i, hi⟩ := List.mem_iff_getElem?.mp m
  rw [List.getElem?_take] at hi
  split at hi
  · rename_i hlt
    have h1 := (List.getElem?_eq_some_iff.mp hi).1
    have h2 := (List.getElem?_eq_some_iff.mp hj).1
    have := (List.nodup_iff_pairwise_ne.mp h)
    have q := List.pairwise_iff_getElem.mp this i j h1 h2 hlt
    rw [List.getElem?_eq_getElem h1] at hi
    rw [List.getElem?_eq_getElem h2] at hj
    cases hi
    exact q (Option.some.inj hj).symm
  · cases hi
theorem all_names {ds : List D} (h : ∀ e ∈ ds, isNameD e = true) : ∃ ss : List Str, ds = ss.map D.str ∧ ∀ s ∈ ss, isNameS s = true := by
  induction ds with
  | nil => exact ⟨[], rfl, fun _ m => nomatch m⟩
  | cons d ds ih =>
    obtain ⟨ss, rfl, q⟩ := ih fun e m => h e (List.mem_cons_of_mem _ m)
    have hd := h d List.mem_cons_self
    cases d with
    | str s => exact ⟨s :: ss, rfl, fun t m => by
        rcases List.mem_cons.mp m with rfl | m
        · exact hd
        · exact q t m⟩
    | _ => exact absurd hd (by simp [isNameD])
theorem strsD_map (ss : List Str) : strsD (ss.map D.str) = ss := by
  unfold strsD
  rw [List.filterMap_map]
  exact List.filterMap_some
theorem badOf_no {ss : List Str} (h : ∀ s ∈ ss, isNameS s = true) : badOf (ss.map D.str) = none := by
  unfold badOf
  rw [List.find?_eq_none]
  intro d m
  obtain ⟨s, hs, rfl⟩ := List.mem_map.mp m
  have : isNameD (.str s) = true := h s hs
  rw [this]
  decide
theorem namesDue_strs {ss : List Str} (h : ∀ s ∈ ss, isNameS s = true) : namesDue (ss.map D.str) = match repOf [] ss with
    | some s => some ⟨.repeatedName, [.str s]⟩
    | none => if 12 < ss.length then some ⟨.tooMany, [.int 12]⟩ else none := by
  unfold namesDue
  rw [badOf_no h, strsD_map, List.length_map]
  all_goals rfl
theorem namesDue_none {ds : List D} (h : namesDue ds = none) : ∃ ss : List Str, ds = ss.map D.str ∧ NamesOk ss ∧ ss.length ≤ 12 := by
  have hb : badOf ds = none := by
    cases e : badOf ds with
    | none => rfl
    | some d => unfold namesDue at h; rw [e] at h; cases h
  obtain ⟨ss, rfl, hs⟩ := all_names (ds := ds) fun e m => by
    have := List.find?_eq_none.mp hb e m
    simpa using this
  rw [namesDue_strs hs] at h
  have hr : repOf [] ss = none := by
    cases e : repOf [] ss with
    | none => rfl
    | some d => rw [e] at h; cases h
  rw [hr] at h
  have hl : ¬ 12 < ss.length := fun z => by
    have h2 : (if 12 < ss.length then some (⟨.tooMany, [.int 12]⟩ : Er) else none) = none := h
    rw [if_pos z] at h2
    cases h2
  refine ⟨ss, rfl, ⟨hs, ?_⟩, by omega⟩
  refine nodup_of_rep fun j t hj m => ?_
  have key : ∀ (n j : Nat) t, j ≤ n → ss[j]? = some t → t ∉ ss.take j := by
    intro n
    induction n with
    | zero =>
      intro j t hn hj
      have : j = 0 := by omega
      subst this
      simp
    | succ n ih =>
      intro j t hn hj m
      by_cases c : j ≤ n
      · exact ih j t c hj m
      · have : j = n + 1 := by omega
        subst this
        have := repOf_at ss [] (n + 1) t hj (fun k u hk hu => by simpa using ih k u (by omega) hu) (by simpa using m)
        rw [hr] at this
        cases this
  exact key j j t (Nat.le_refl _) hj m
theorem namesDue_ok {ss : List Str} (h : NamesOk ss) (hl : ss.length ≤ 12) : namesDue (ss.map D.str) = none := by
  rw [namesDue_strs h.1, repOf_no ss [] (fun j t hj => by simpa using rep_of_nodup h.2 j t hj)]
  exact if_neg (by omega)
end DL
namespace DL
open PySem PySem.Spec L2
theorem canLay_strs : ∀ {ss : List Str}, (∀ s ∈ ss, AllV s) → PyData.canLayAll0 (ss.map PyData.str) = true ∧ PyData.depthAll (ss.map PyData.str) = 0
  | [], _ => ⟨by simp only [List.map_nil, PyData.canLayAll0], by simp only [List.map_nil, PyData.depthAll]⟩
  | s :: ss, h => by
    obtain ⟨a, b⟩ := canLay_strs fun t m => h t (List.mem_cons_of_mem _ m)
    refine ⟨?_, ?_⟩
    · simp only [List.map_cons, PyData.canLayAll0, PyData.canLay0, a, Bool.and_true, PyData.strOk]
      rw [Array.all_eq_true_iff_forall_mem]
      intro c hc
      have := h s List.mem_cons_self c (by simpa using hc)
      simpa using this
    · simp only [List.map_cons, PyData.depthAll, PyData.depth, b, Nat.max_self]
theorem okPys_strs : ∀ ss : List Str, okPys (ss.map D.str) = true
  | [] => rfl
  | s :: ss => by simp only [List.map_cons, okPys, okPy, okPys_strs ss, Bool.and_self]
theorem names_v {ss : List Str} (h : ∀ s ∈ ss, isNameS s = true) : ∀ s ∈ ss, AllV s := fun s m => name_v (h s m)
theorem sortS_mem {s : Str} {l : List Str} : s ∈ sortS l ↔ s ∈ l := (sortS_perm l).mem_iff
theorem sortS_len (l : List Str) : (sortS l).length = l.length := (sortS_perm l).length_eq
theorem sortS_ok {l : List Str} (h : NamesOk l) : NamesOk (sortS l) := ⟨fun s m => h.1 s (sortS_mem.mp m), (sortS_perm l).nodup_iff.mpr h.2⟩
theorem sortS_id {l : List Str} (h : l.Pairwise fun a b => leS a b = true) : sortS l = l := sort_uniq (sortS_perm l) (sortS_pw l) h
theorem sortS_eq {a b : List Str} (p : a.Perm b) : sortS a = sortS b := sort_uniq ((sortS_perm a).trans (p.trans (sortS_perm b).symm)) (sortS_pw a) (sortS_pw b)
theorem perm_of_mem {a b : List Str} (ha : a.Nodup) (hb : b.Nodup) (h : ∀ s, s ∈ a ↔ s ∈ b) : a.Perm b := (List.perm_ext_iff_of_nodup ha hb).mpr h
def ncross (one two : List Str) : Bool := !decide (partS false one two = []) && !decide (partS false one two = one) && !decide (partS false one two = two)
def orDue (a b : Option Er) : Option Er := match a with
  | some e => some e
  | none => b
end DL
namespace DL
open PySem PySem.Spec L2
theorem Ok.weak {g : G} {T T' : Nat} {F H : Hp} {env env' : En} {σ σ' : St} (ok : Ok g T F env σ H) (hl : σ'.length = env'.length) (h : ∀ (i : Nat) (s : SV), env'[i]? = some (some s) → env[i]? = some (some s) ∧ σ'[i]? = σ[i]?) : Ok g T' F env' σ' H :=
  ⟨ok.grow, ok.sto.any, hl, fun i d q => by
    obtain ⟨a, b⟩ := h i _ q
    rw [b]
    exact ok.val i d a, fun i q => by
    obtain ⟨a, b⟩ := h i _ q
    rw [b]
    exact ok.stor i a, fun i xs q => by
    obtain ⟨a, b⟩ := h i _ q
    rw [b]
    exact ok.own i xs a, fun i j xs ys ne q1 q2 => by
    obtain ⟨a, b⟩ := h i _ q1
    obtain ⟨a2, b2⟩ := h j _ q2
    rw [b, b2]
    exact ok.dis i j xs ys ne a a2⟩
end DL
namespace DL
open PySem PySem.Spec L2
theorem cutS_to_list (s : Str) (n : Nat) : (cutS s none (some (n : Int))).cps.toList = s.cps.toList.take n := by
  unfold cutS
  simp only [HT.sIx_none, HT.sIx_nat, List.drop_zero, Nat.sub_zero, List.toList_toArray]
  have hl : s.length = s.cps.toList.length := (chars_len s).symm
  show s.cps.toList.take (min n s.length) = _
  rw [hl]
  by_cases c : n ≤ s.cps.toList.length
  · rw [Nat.min_eq_left c]
  · rw [Nat.min_eq_right (by omega), List.take_length, List.take_of_length_le (by omega)]
theorem cutS_from_list (s : Str) (n : Nat) : (cutS s (some (n : Int)) none).cps.toList = s.cps.toList.drop n := by
  unfold cutS
  simp only [HT.sIx_none, HT.sIx_nat, List.toList_toArray]
  show (s.cps.toList.drop (min n s.length)).take (s.length - min n s.length) = _
  have hl : s.length = s.cps.toList.length := (chars_len s).symm
  rw [hl]
  by_cases c : n ≤ s.cps.toList.length
  · rw [Nat.min_eq_left c]
    exact List.take_of_length_le (by rw [List.length_drop]; omega)
  · rw [Nat.min_eq_right (by omega), List.drop_length, List.drop_of_length_le (by omega)]
    simp
theorem cutS_to_len (s : Str) (n : Nat) : (cutS s none (some (n : Int))).length = min n s.length := by
  rw [← chars_len, cutS_to_list, List.length_take, chars_len]
theorem cutS_from_len (s : Str) (n : Nat) : (cutS s (some (n : Int)) none).length = s.length - n := by
  rw [← chars_len, cutS_from_list, List.length_drop, chars_len]
theorem name_cut {s : Str} {n : Nat} (h : SignsOk s) (h0 : 0 < s.length) (hn : 0 < n) (h8 : n ≤ 8 ∨ s.length ≤ 8) : isNameS (cutS s none (some (n : Int))) = true :=
  isName_of (by rw [cutS_to_len]; omega) (by rw [cutS_to_len]; omega) (signs_cut hn h)
theorem zero_one : Str.ofString "0" = ⟨#[48]⟩ := by decide +kernel
theorem name_zero {s : Str} (h : SignsOk s) : SignsOk (s ++ Str.ofString "0") := by
  rw [zero_one]
  exact name_add h (by decide +kernel)
theorem signs_app {a b : Str} (h : SignsOk a) (hb : b.cps.toList.all (fun c => decide (c ∈ SIG.cps.toList)) = true) : SignsOk (a ++ b) := by
  refine ⟨?_, ?_⟩
  · rw [app_list]
    cases e : a.cps.toList with
    | nil => have := h.1; rw [e] at this; exact absurd this (by simp [firstIn])
    | cons x l => have := h.1; rw [e] at this; exact this
  · rw [app_list, List.all_append, h.2, hb]
    rfl
def qn (k : Nat) : Str := Str.ofString "q" ++ Str.ofString (toString (k : Int))
theorem qn_ok : ∀ k < 91, isNameS (qn k) = true ∧ (Str.ofString (toString (k : Int))).length ≤ 3 ∧ (k : Int).natAbs.log2 < 1920 := by decide +kernel
theorem qn_nodup : ((List.range 91).map qn).Nodup := by decide +kernel
theorem qn_free {ss : List Str} {n : Nat} (hn : n = ss.length) (hl : n ≤ 90) (h : ∀ j, j < n → qn j ∈ ss) : qn n ∉ ss := fun m => by
  have nd : ((List.range (n + 1)).map qn).Nodup := List.Nodup.sublist ((List.range_sublist.mpr (by omega)).map qn) qn_nodup
  have := nd.length_le_of_subset (l₂ := ss) fun x hx => by
    obtain ⟨j, hj, rfl⟩ := List.mem_map.mp hx
    rw [List.mem_range] at hj
    by_cases q : j < n
    · exact h j q
    · have : j = n := by omega
      rw [this]
      exact m
  rw [List.length_map, List.length_range] at this
  omega
def StrangeI (ss : List Str) (i : Nat) (w : Str) : Prop := w ∉ ss ∨ i = 0 ∨ ∃ m, i = m + 1 ∧ w = qn m ∧ ∀ j, j < m → qn j ∈ ss
theorem strange_step {ss : List Str} {i : Nat} {w : Str} (h : StrangeI ss i w) (c : w ∈ ss) : StrangeI ss (i + 1) (qn i) := by
  rcases h with h | rfl | ⟨m, rfl, rfl, hm⟩
  · exact absurd c h
  · exact .inr (.inr ⟨0, rfl, rfl, fun j hj => absurd hj (by omega)⟩)
  · refine .inr (.inr ⟨m + 1, rfl, rfl, fun j hj => ?_⟩)
    by_cases q : j < m
    · exact hm j q
    · have : j = m := by omega
      rw [this]
      exact c
theorem strange_end {ss : List Str} {w : Str} (hl : ss.length ≤ 90) (h : StrangeI ss (ss.length + 1) w) : w ∉ ss := by
  rcases h with h | h | ⟨m, h1, rfl, hm⟩
  · exact h
  · omega
  · have : m = ss.length := by omega
    exact qn_free this (by omega) hm
def sgn (l : List Nat) (x : Int) : Nat := l.getD x.toNat 0
theorem sgn_at {l : List Nat} {x : Int} (h0 : 0 ≤ x) (h1 : x < l.length) : atI l x = some (sgn l x) := by
  obtain ⟨n, rfl⟩ : ∃ n : Nat, x = n := ⟨x.toNat, (Int.toNat_of_nonneg h0).symm⟩
  have hn : n < l.length := by omega
  refine atI_nat ?_
  unfold sgn
  rw [Int.toNat_natCast, List.getD_eq_getElem?_getD, List.getElem?_eq_getElem hn]
  rfl
theorem sgn_mem {l : List Nat} {x : Int} (h0 : 0 ≤ x) (h1 : x < l.length) : sgn l x ∈ l := by
  unfold sgn
  have hn : x.toNat < l.length := by omega
  rw [List.getD_eq_getElem?_getD, List.getElem?_eq_getElem hn]
  exact List.getElem_mem hn
theorem sgn_ne {l : List Nat} (nd : l.Nodup) {x y : Int} (hx : 0 ≤ x) (hx1 : x < l.length) (hy : 0 ≤ y) (hy1 : y < l.length) (h : x ≠ y) : sgn l x ≠ sgn l y := by
  have a : x.toNat < l.length := by omega
  have b : y.toNat < l.length := by omega
  have ne : x.toNat ≠ y.toNat := by omega
  unfold sgn
  rw [List.getD_eq_getElem?_getD, List.getD_eq_getElem?_getD, List.getElem?_eq_getElem a, List.getElem?_eq_getElem b]
  intro e
  have e : l[x.toNat] = l[y.toNat] := e
  have pw := List.pairwise_iff_getElem.mp (List.nodup_iff_pairwise_ne.mp nd)
  rcases Nat.lt_or_ge x.toNat y.toNat with q | q
  · exact pw _ _ a b q e
  · exact pw _ _ b a (by omega) e.symm
theorem let_nodup : LET.cps.toList.Nodup := by decide +kernel
theorem sig2_nodup : SIG2.cps.toList.Nodup := by decide +kernel
theorem let_len : (LET.cps.toList.length : Int) = 26 := by decide +kernel
theorem sig2_len : (SIG2.cps.toList.length : Int) = 36 := by decide +kernel
theorem step_ne {st s : Int} {i j : Nat} {M : Int} (hM : M = 26 ∨ M = 36) (hs : s = 1 ∨ s = 5 ∨ s = 7 ∨ s = 11) (hij : i < j) (hj : j < 16) : (st + s * i).fmod M ≠ (st + s * j).fmod M := by
  rcases hM with rfl | rfl <;> rw [Int.fmod_eq_emod_of_nonneg _ (by decide), Int.fmod_eq_emod_of_nonneg _ (by decide)] <;> rcases hs with rfl | rfl | rfl | rfl <;> omega
theorem fmod_in {x M : Int} (h : 0 < M) : 0 ≤ x.fmod M ∧ x.fmod M < M := ⟨Int.fmod_nonneg_of_pos _ h, Int.fmod_lt_of_pos _ h⟩
def nm0 (st s : Int) (k : Nat) : Str := ⟨#[sgn LET.cps.toList ((st + s * k).fmod 26)]⟩
def nm1 (menu : List Nat) (M : Int) (w : Str) (p : Nat) (st s : Int) (k : Nat) : Str := cutS w none (some (p : Int)) ++ ⟨#[sgn menu ((st + s * k).fmod M)]⟩ ++ cutS w (some ((p : Int) + 1)) none
def nm2 (w : Str) (a : Nat) (last : Int) (k : Nat) : Str := if k < 8 then cutS w none (some ((a : Int) + k + 1)) else cutS w none (some 7) ++ ⟨#[sgn SIG2.cps.toList ((last + k - 7).fmod 36)]⟩
theorem one_ne {a b : Nat} (h : a ≠ b) : (⟨#[a]⟩ : Str) ≠ ⟨#[b]⟩ := fun e => h (by
  have := congrArg (fun s : Str => s.cps.toList) e
  simpa using this)
theorem nm0_ok {st s : Int} (k : Nat) : isNameS (nm0 st s k) = true := by
  have ⟨a, b⟩ := fmod_in (x := st + s * k) (M := 26) (by decide)
  exact isName_of (by show 0 < 1; decide) (by show 1 ≤ 8; decide) (name_one (sgn_mem a (by rw [let_len]; exact b)))
theorem nm0_ne {st s : Int} (hs : s = 1 ∨ s = 5 ∨ s = 7 ∨ s = 11) {i j : Nat} (hij : i < j) (hj : j < 16) : nm0 st s i ≠ nm0 st s j := by
  have ⟨a, b⟩ := fmod_in (x := st + s * i) (M := 26) (by decide)
  have ⟨a2, b2⟩ := fmod_in (x := st + s * j) (M := 26) (by decide)
  exact one_ne (sgn_ne let_nodup a (by rw [let_len]; exact b) a2 (by rw [let_len]; exact b2) (step_ne (.inl rfl) hs hij hj))
theorem nm1_ne {menu : List Nat} {M : Int} {w : Str} {p : Nat} {st s : Int} (nd : menu.Nodup) (hm : (menu.length : Int) = M) (hM : M = 26 ∨ M = 36) (hs : s = 1 ∨ s = 5 ∨ s = 7 ∨ s = 11) {i j : Nat} (hij : i < j) (hj : j < 16) : nm1 menu M w p st s i ≠ nm1 menu M w p st s j := fun e => by
  have M0 : 0 < M := by rcases hM with rfl | rfl <;> decide
  have ⟨a, b⟩ := fmod_in (x := st + s * i) M0
  have ⟨a2, b2⟩ := fmod_in (x := st + s * j) M0
  have ne := sgn_ne nd a (by rw [hm]; exact b) a2 (by rw [hm]; exact b2) (step_ne hM hs hij hj)
  have e2 := congrArg (fun s : Str => s.cps.toList) e
  simp only [nm1, app_list, List.append_assoc] at e2
  have e3 := List.append_cancel_left e2
  have e4 : sgn menu ((st + s * i).fmod M) = sgn menu ((st + s * j).fmod M) := by
    have := congrArg List.head? e3
    simpa using this
  exact ne e4
theorem nm1_ok {menu : List Nat} {M : Int} {w : Str} {p : Nat} {st s : Int} (hw : isNameS w = true) (hp : p < w.length) (hm : (menu.length : Int) = M) (M0 : 0 < M) (h1 : ∀ c ∈ menu, c ∈ SIG.cps.toList) (h0 : p = 0 → ∀ c ∈ menu, c ∈ LET.cps.toList) (k : Nat) : isNameS (nm1 menu M w p st s k) = true := by
  have ⟨a, b⟩ := fmod_in (x := st + s * k) M0
  have hc := sgn_mem a (by rw [hm]; exact b : (st + s * k).fmod M < menu.length)
  generalize hx : sgn menu ((st + s * k).fmod M) = c at hc
  have ⟨l0, l8⟩ := name_len hw
  have sg := name_signs hw
  have e1 : ((p : Int) + 1) = ((p + 1 : Nat) : Int) := by omega
  have hl : (nm1 menu M w p st s k).length = w.length := by
    unfold nm1
    rw [e1, len_add, len_add, cutS_to_len, cutS_from_len]
    show min p w.length + 1 + _ = _
    omega
  have tailok : (cutS w (some ((p : Int) + 1)) none).cps.toList.all (fun c => decide (c ∈ SIG.cps.toList)) = true := by
    rw [e1, cutS_from_list, List.all_eq_true]
    intro x m
    exact List.all_eq_true.mp sg.2 x (List.mem_of_mem_drop m)
  refine isName_of (by omega) (by omega) ?_
  unfold nm1
  rw [hx]
  refine signs_app ?_ tailok
  by_cases p0 : p = 0
  · subst p0
    have e : cutS w none (some ((0 : Nat) : Int)) ++ ⟨#[c]⟩ = (⟨#[c]⟩ : Str) := str_ext (by rw [app_list, cutS_to_list]; simp)
    rw [e]
    exact name_one (h0 rfl c hc)
  · exact name_add (signs_cut (by omega) sg) (h1 c hc)
theorem nm2_ok {w : Str} {a : Nat} {last : Int} (hw : isNameS w = true) (k : Nat) : isNameS (nm2 w a last k) = true := by
  have ⟨l0, l8⟩ := name_len hw
  have sg := name_signs hw
  unfold nm2
  split
  · have e : ((a : Int) + k + 1) = ((a + k + 1 : Nat) : Int) := by omega
    rw [e]
    exact name_cut sg l0 (by omega) (.inr l8)
  · have ⟨x, y⟩ := fmod_in (x := last + k - 7) (M := 36) (by decide)
    have e : cutS w none (some 7) = cutS w none (some ((7 : Nat) : Int)) := rfl
    refine isName_of ?_ ?_ (name_add (signs_cut (n := 7) (by decide) sg) (sig2_sig _ (sgn_mem x (by rw [sig2_len]; exact y))))
    · rw [len_add]
      show 0 < _ + 1
      omega
    · rw [len_add, e, cutS_to_len]
      show min 7 w.length + 1 ≤ 8
      omega
theorem nm2_ne {w : Str} {a n : Nat} {l : Nat} (hw : w.length = 8) (hl : l < 36) (hlast : w.cps.toList[7]? = some (sgn SIG2.cps.toList l)) (ha : a + n ≤ 8 ∨ a = 0) (hn : n < 16) {i j : Nat} (hij : i < j) (hj : j < n) : nm2 w a l i ≠ nm2 w a l j := by
  have hw' : w.cps.toList.length = 8 := by rw [chars_len]; exact hw
  have pre : ∀ k : Nat, k < 8 → ((a : Int) + k + 1) = ((a + k + 1 : Nat) : Int) := fun k _ => by omega
  unfold nm2
  by_cases c1 : j < 8
  · rw [if_pos (by omega : i < 8), if_pos c1, pre i (by omega), pre j c1]
    intro e
    have := congrArg Str.length e
    rw [cutS_to_len, cutS_to_len] at this
    omega
  · have a0 : a = 0 := by omega
    subst a0
    rw [if_neg c1]
    have ⟨x, y⟩ := fmod_in (x := (l : Int) + j - 7) (M := 36) (by decide)
    have e7 : cutS w none (some 7) = cutS w none (some ((7 : Nat) : Int)) := rfl
    by_cases c2 : i < 8
    · rw [if_pos c2, pre i c2]
      intro e
      have el := congrArg (fun s : Str => s.cps.toList) e
      simp only [app_list] at el
      rw [e7, cutS_to_list, cutS_to_list] at el
      by_cases c3 : i = 7
      · subst c3
        have h2 : (w.cps.toList.take (0 + 7 + 1))[7]? = some (sgn SIG2.cps.toList l) := by rw [List.getElem?_take_of_lt (by omega)]; exact hlast
        rw [el] at h2
        rw [List.getElem?_append_right (by rw [List.length_take]; omega), List.length_take, hw'] at h2
        have h3 : sgn SIG2.cps.toList (((l : Int) + j - 7).fmod 36) = sgn SIG2.cps.toList l := by simpa using h2
        refine sgn_ne sig2_nodup x (by rw [sig2_len]; exact y) (by omega) (by rw [sig2_len]; omega) ?_ h3
        rw [Int.fmod_eq_emod_of_nonneg _ (by decide)]
        omega
      · have := congrArg List.length el
        rw [List.length_append, List.length_take, List.length_take, hw'] at this
        simp at this
        omega
    · rw [if_neg c2]
      intro e
      have el := congrArg (fun s : Str => s.cps.toList) e
      simp only [app_list] at el
      have e3 := List.append_cancel_left el
      have ⟨x2, y2⟩ := fmod_in (x := (l : Int) + i - 7) (M := 36) (by decide)
      have h3 : sgn SIG2.cps.toList (((l : Int) + i - 7).fmod 36) = sgn SIG2.cps.toList (((l : Int) + j - 7).fmod 36) := by simpa using e3
      refine sgn_ne sig2_nodup x2 (by rw [sig2_len]; exact y2) x (by rw [sig2_len]; exact y) ?_ h3
      rw [Int.fmod_eq_emod_of_nonneg _ (by decide), Int.fmod_eq_emod_of_nonneg _ (by decide)]
      omega
theorem names_done {n : Int} {nm : Nat → Str} {Q : RV → Prop} (n0 : 0 ≤ n) (h1 : ∀ k : Nat, (k : Int) < n → isNameS (nm k) = true) (h2 : ∀ i j : Nat, i < j → (j : Int) < n → nm i ≠ nm j)
    (h : ∀ ss : List Str, NamesOk ss → sortS ss = ss → (ss.length : Int) = n → Q (.own (ss.map D.str))) : Q (.own ((sortS ((List.range n.toNat).map nm)).map D.str)) := by
  have ok : NamesOk ((List.range n.toNat).map nm) := by
    refine ⟨fun s m => ?_, ?_⟩
    · obtain ⟨k, hk, rfl⟩ := List.mem_map.mp m
      rw [List.mem_range] at hk
      exact h1 k (by omega)
    · rw [List.nodup_iff_pairwise_ne, List.pairwise_iff_getElem]
      intro i j hi hj hij
      rw [List.length_map, List.length_range] at hi hj
      rw [List.getElem_map, List.getElem_map, List.getElem_range, List.getElem_range]
      exact h2 i j hij (by omega)
  refine h _ (sortS_ok ok) (sortS_id (sortS_pw _)) ?_
  rw [sortS_len, List.length_map, List.length_range]
  omega
theorem grow_map {nm : Nat → Str} {i : Nat} : ((List.range i).map nm).map D.str ++ [D.str (nm i)] = ((List.range (i + 1)).map nm).map D.str := by
  rw [List.range_succ, List.map_append, List.map_append]
  rfl
end DL
namespace DL
open PySem PySem.Spec L2
theorem flat_lf {d : D} (h : FlatD d) : lf d = true := by
  cases d <;> first | rfl | exact h.elim
theorem flats_lf : ∀ {ds : List D}, (∀ e ∈ ds, FlatD e) → lfL ds = true
  | [], _ => rfl
  | d :: ds, h => by
    simp only [lfL, flat_lf (h d List.mem_cons_self), flats_lf fun x m => h x (List.mem_cons_of_mem _ m), Bool.and_self]
theorem in_flat {g : Bool} {d : D} {ds : List D} {Q : RV → Prop} (hd : FlatD d) (hs : ∀ e ∈ ds, FlatD e) (h : ∀ b, Q (.val (.bl b))) : inK g d ds Q := by
  obtain ⟨v, hv⟩ := flatD_flat hd
  obtain ⟨vs, hvs⟩ := flats_of hs
  exact ⟨v, vs, hv, hvs, h _⟩
theorem strs_flat {ss : List Str} (h : ∀ s ∈ ss, isNameS s = true) : ∀ e ∈ ss.map D.str, FlatD e := fun e m => by
  obtain ⟨s, hs, rfl⟩ := List.mem_map.mp m
  exact name_flat (h s hs)
theorem xn_ok : ∀ k < 30, (Str.ofString "x").length + (Str.ofString (toString ((k : Nat) : Int))).length ≤ 8 ∧ litV (Str.ofString "x" ++ Str.ofString (toString ((k : Nat) : Int))) = true ∧ ((k : Nat) : Int).natAbs.log2 < 1920 := by decide +kernel
def OneE (e : Er) : Prop := (e.k = .badName ∨ e.k = .repeatedName ∨ e.k = .tooMany ∨ e.k = .unknownName) ∧ ∃ d, e.xs = [d] ∧ FlatD d
theorem namesDue_one {ds : List D} {e : Er} (hf : ∀ d ∈ ds, FlatD d) (h : namesDue ds = some e) : OneE e := by
  unfold namesDue at h
  split at h
  · rename_i d hb
    cases h
    exact ⟨.inl rfl, _, rfl, hf _ (List.mem_of_find?_eq_some hb)⟩
  · split at h
    · rename_i hb _ s hr
      cases h
      obtain ⟨ss, rfl, hs⟩ := all_names (ds := ds) fun e m => by
        have := List.find?_eq_none.mp hb e m
        simpa using this
      rw [strsD_map] at hr
      refine ⟨.inr (.inl rfl), _, rfl, ?_⟩
      have key : ∀ (ss seen : List Str) s, repOf seen ss = some s → s ∈ ss := by
        intro ss
        induction ss with
        | nil => intro seen s h; cases h
        | cons t ss ih =>
          intro seen s h
          unfold repOf at h
          split at h
          · cases h; exact List.mem_cons_self
          · exact List.mem_cons_of_mem _ (ih _ _ h)
      exact name_flat (hs s (key _ _ _ hr))
    · split at h
      · cases h
        exact ⟨.inr (.inr (.inl rfl)), _, rfl, True.intro⟩
      · cases h
theorem OneE.deep {e : Er} (h : OneE e) {n : Nat} : DeepD (n + 2) e.d := by
  obtain ⟨hk, d, hx, hf⟩ := h
  unfold Er.d
  rw [hx]
  refine ⟨by simp, fun x m => ?_⟩
  rcases List.mem_cons.mp m with rfl | m
  · show e.k.cls.length ≤ 900
    rcases hk with h | h | h | h <;> rw [h] <;> decide
  · rw [List.mem_singleton.mp m]
    exact flat_deep hf
theorem OneE.len {e : Er} (h : OneE e) : e.xs.length = e.k.flds.length := by
  obtain ⟨hk, d, hx, hf⟩ := h
  rw [hx]
  rcases hk with h | h | h | h <;> rw [h] <;> rfl
theorem OneE.lf {e : Er} (h : OneE e) : lfL e.xs = true := by
  obtain ⟨hk, d, hx, hf⟩ := h
  rw [hx]
  simp only [lfL, flat_lf hf, Bool.and_self]
end DL
namespace DL
end DL
namespace DL
open PySem PySem.Spec L2
section
variable {Q : RV → Prop} {E : Exc → Prop} {d : D} {ds : List D} {g : Bool}
end
theorem orDue_one {a b : Option Er} {e : Er} (h : orDue a b = some e) (ha : a = some e → OneE e) (hb : b = some e → OneE e) : OneE e := by
  cases a with
  | none => exact hb h
  | some x => exact ha h
abbrev FlatL (n : List D) : Prop := n.length ≤ 900 ∧ ∀ e ∈ n, FlatD e
theorem eq_nil_iff {l : List Str} : l = [] ↔ ∀ s, s ∉ l := List.eq_nil_iff_forall_not_mem
end DL
namespace DL
open PySem PySem.Spec L2
end DL
namespace DL
open PySem PySem.Spec L2
theorem perm_strs {ys zs : List D} {ss : List Str} (h : (ys ++ zs).Perm (ss.map D.str)) : ∃ a b : List Str, ys = a.map D.str ∧ zs = b.map D.str ∧ (a ++ b).Perm ss := by
  have all : ∀ e ∈ ys ++ zs, ∃ s, e = D.str s := fun e m => by
    obtain ⟨s, _, rfl⟩ := List.mem_map.mp (h.mem_iff.mp m)
    exact ⟨s, rfl⟩
  have str : ∀ l : List D, (∀ e ∈ l, ∃ s, e = D.str s) → l = (strsD l).map D.str := by
    intro l
    induction l with
    | nil => intro _; rfl
    | cons e l ih =>
      intro hl
      obtain ⟨s, rfl⟩ := hl e List.mem_cons_self
      have := ih fun x m => hl x (List.mem_cons_of_mem _ m)
      show D.str s :: l = ((strsD (D.str s :: l)).map D.str)
      have e : strsD (D.str s :: l) = s :: strsD l := rfl
      rw [e, List.map_cons, ← this]
  refine ⟨strsD ys, strsD zs, str ys fun e m => all e (List.mem_append_left _ m), str zs fun e m => all e (List.mem_append_right _ m), ?_⟩
  have := h.filterMap (fun d => match d with | .str s => some s | _ => none)
  have e1 : (ys ++ zs).filterMap (fun d => match d with | .str s => some s | _ => none) = strsD ys ++ strsD zs := List.filterMap_append
  have e2 : (ss.map D.str).filterMap (fun d => match d with | .str s => some s | _ => none) = ss := strsD_map ss
  rw [e1, e2] at this
  exact this
theorem app_ok {a b : List Str} (ha : NamesOk a) (hb : NamesOk b) (h : ∀ s ∈ a, s ∉ b) : NamesOk (a ++ b) := by
  refine ⟨fun s m => ?_, ?_⟩
  · rcases List.mem_append.mp m with m | m
    · exact ha.1 s m
    · exact hb.1 s m
  · rw [List.nodup_append]
    exact ⟨ha.2, hb.2, fun x hx y hy e => h x hx (by rw [e]; exact hy)⟩
theorem cutD_drop {xs : List D} {m : Int} (h : 0 ≤ m) : cutD xs (some m) none = xs.drop m.toNat := by
  obtain ⟨n, rfl⟩ : ∃ n : Nat, m = n := ⟨m.toNat, (Int.toNat_of_nonneg h).symm⟩
  unfold cutD
  rw [HT.sIx_none, HT.sIx_nat, Int.toNat_natCast]
  by_cases c : n ≤ xs.length
  · rw [Nat.min_eq_left c]
    exact List.take_of_length_le (by rw [List.length_drop]; omega)
  · rw [Nat.min_eq_right (by omega), List.drop_length, List.drop_of_length_le (by omega)]
    simp
theorem ok_nodup_le {a n : List Str} (ha : NamesOk a) (h : ∀ s ∈ a, s ∈ n) : a.length ≤ n.length := ha.2.length_le_of_subset fun s m => h s m
theorem strs_flatL {ss : List Str} (h : ∀ s ∈ ss, isNameS s = true) (hl : ss.length ≤ 900) : FlatL (ss.map D.str) := ⟨by rw [List.length_map]; exact hl, strs_flat h⟩
theorem seq_deep {d : D} {ds : List D} {k : Nat} (h : seqD d = some ds) (hf : FlatL ds) : DeepD (k + 2) d := by
  cases d <;> simp only [seqD, Option.some.injEq, reduceCtorEq] at h <;> subst h <;> exact ⟨by have := hf.1; omega, fun e m => flat_deep (hf.2 e m)⟩
end DL
namespace DL
open PySem PySem.Spec L2
def rev3 {α : Type} (l : List α) : List α := match l with
  | [a, b, c] => [c, b, a]
  | l => l
theorem W_rev3 {α : Type} {a b c : α} : rev3 [a, b, c] = [c, b, a] := rfl
end DL
namespace DL
open PySem PySem.Spec L2
theorem copied_f {n : Nat} {d : D} {Q : RV → Prop} {E : Exc → Prop} (h : DeepD n d) (q : Q (.val d)) : app (copiedF n) [.val d] (frzK Q) E := copied_of h fun r hr => by
  rcases hr with rfl | ⟨ds, rfl, rfl⟩
  · exact q
  · exact q
end DL
namespace DL
open PySem PySem.Spec L2 PyProof.Rows
section
variable {prog : Program} {w : World} {A : Around} {E : Value → Shared → Prop} {s : Shared}
end
section
variable {X : Cx}
end
section
variable {X : Cx} {g : G} {W : WX} {ca : Nat} {fa : ED} {e : Expr} {env : En} {Q : RV → Prop} {E : Exc → Prop} {ds : List D}
def revK (Q : RV → Prop) : RV → Prop := fun r => ∃ ds, asL r = some ds ∧ Q (.own ds.reverse)
def eLRev (fa : ED) : ED := fun env Q E => frz fa env (revK Q) E
theorem W_lrev : eLRev fa env Q E = frz fa env (revK Q) E := rfl
theorem W_revK1 : revK Q (.val (.lst ds)) = Q (.own ds.reverse) := propext ⟨fun ⟨_, h, q⟩ => by cases h; exact q, fun q => ⟨_, rfl, q⟩⟩
theorem W_revK2 : revK Q (.bor ds) = Q (.own ds.reverse) := propext ⟨fun ⟨_, h, q⟩ => by cases h; exact q, fun q => ⟨_, rfl, q⟩⟩
end
section
variable {X : Cx} {g : G} {W : WX} {ca : Nat} {fa : ED} {a : Expr} {pos p : Pos} {Q : RV → Prop} {ss : List Str}
end
def rev2 {α : Type} (l : List α) : List α := match l with
  | [a, b] => [b, a]
  | l => l
theorem W_rev2 {α : Type} {a b : α} : rev2 [a, b] = [b, a] := rfl
end DL
namespace DL
open PySem PySem.Spec L2
section
variable {Q : RV → Prop} {E : Exc → Prop} {d : D} {ds : List D}
end
def keepL {α : Type} (l : List α) : List α := l
theorem W_keepL {α : Type} {l : List α} : keepL l = l := rfl
theorem subl_ok {y sn : List Str} (h : y.Sublist sn) (ok : NamesOk sn) : NamesOk y ∧ (∀ s ∈ y, s ∈ sn) ∧ y.length ≤ sn.length := ⟨⟨fun s m => ok.1 s (h.subset m), List.Nodup.sublist h ok.2⟩, fun s m => h.subset m, h.length_le⟩
def turnedS (n s : List Str) : List Str := match s, n with
  | x :: t, y :: _ => if x = y then partS true n (x :: t) else x :: t
  | s, _ => s
def nearS (n a : List Str) : List Str := turnedS (sortS n) (sortS a)
def fstS (l : List Str) : Str := l.headD ⟨#[]⟩
def pN (a : List Str) (f s : Str) : Bool := !decide (decide (s ∈ a) = decide (f ∈ a))
theorem near_eq {n a : List Str} (hn : NamesOk n) (ha : NamesOk a) (an : ∀ s ∈ a, s ∈ n) : nearS n a = (sortS n).filter (pN a (fstS (sortS n))) := by
  have hsn := sortS_ok hn
  have hsa := sortS_ok ha
  have least : ∀ {f r}, sortS n = f :: r → ∀ s ∈ n, leS f s = true := fun {f r} e s m => by
    have m2 : s ∈ f :: r := by rw [← e]; exact sortS_mem.mpr m
    have pw := sortS_pw n
    rw [e] at pw
    rcases List.mem_cons.mp m2 with rfl | m3
    · exact leS_refl _
    · exact List.rel_of_pairwise_cons pw m3
  cases en : sortS n with
  | nil =>
    have na : a = [] := eq_nil_iff.mpr fun s m => by
      have := sortS_mem.mpr (an s m)
      rw [en] at this
      cases this
    subst na
    have e0 : sortS [] = [] := List.length_eq_zero_iff.mp (sortS_len [])
    unfold nearS
    rw [en, e0]
    rfl
  | cons f r =>
    have hf : fstS (f :: r) = f := rfl
    rw [hf]
    have fn : f ∈ n := sortS_mem.mp (by rw [en]; exact List.mem_cons_self)
    by_cases fa : f ∈ a
    · have ef : ∃ t, sortS a = f :: t := by
        cases ea : sortS a with
        | nil =>
          have := sortS_mem.mpr fa
          rw [ea] at this
          cases this
        | cons x t =>
          have xa : x ∈ a := sortS_mem.mp (by rw [ea]; exact List.mem_cons_self)
          have f2 : f ∈ x :: t := by rw [← ea]; exact sortS_mem.mpr fa
          have pw := sortS_pw a
          rw [ea] at pw
          have hxf : leS x f = true := by
            rcases List.mem_cons.mp f2 with rfl | m
            · exact leS_refl _
            · exact List.rel_of_pairwise_cons pw m
          have := leS_anti (least en x (an x xa)) hxf
          subst this
          exact ⟨t, rfl⟩
      obtain ⟨t, ea⟩ := ef
      unfold nearS
      rw [en, ea]
      show (if f = f then partS true (f :: r) (f :: t) else f :: t) = _
      rw [if_pos rfl]
      unfold partS
      refine List.filter_congr fun s _ => ?_
      have e1 : s ∈ f :: t ↔ s ∈ a := by rw [← ea]; exact sortS_mem
      unfold pN
      by_cases c : s ∈ a
      · simp [e1, c, fa, -List.mem_cons]
      · simp [e1, c, fa, -List.mem_cons]
    · have e1 : nearS n a = sortS a := by
        unfold nearS
        rw [en]
        cases ea : sortS a with
        | nil => rfl
        | cons x t =>
          have xa : x ∈ a := sortS_mem.mp (by rw [ea]; exact List.mem_cons_self)
          show (if x = f then _ else x :: t) = _
          rw [if_neg fun z => fa (by rw [← z]; exact xa)]
      rw [e1]
      have pw := sortS_pw n
      rw [en] at hsn pw
      refine sort_uniq (perm_of_mem hsa.2 (hsn.2.filter _) fun s => ?_) (sortS_pw a) (pw.filter _)
      rw [sortS_mem, List.mem_filter]
      have e2 : s ∈ f :: r ↔ s ∈ n := by rw [← en]; exact sortS_mem
      rw [e2]
      unfold pN
      by_cases c : s ∈ a
      · simp [c, fa, an s c]
      · simp [c, fa]
end DL
namespace DL
open PySem PySem.Spec PyProof.Rows
open L2 hiding St
section
variable {X : Cx} {CX : CXT} {n : Nat} {C f : Addr} {fd : FuncData} {ps : List Str} {sp : Sp} {E : XK}
end
end DL
namespace DL
open PySem PySem.Spec L2
section
variable {X : Cx} {g : G} {W : WX} {ca : Nat} {fa : ED} {e : Expr} {pos : Pos} {C : Addr} {n : Str} {env : En} {Q : RV → Prop} {E : Exc → Prop} {K : PySem.W.Frag} {F : Hp} {T : Nat} {σ : St} {H Hs : Hp}
def objQ (C : Addr) (n : Str) (Q : RV → Prop) : RV → Prop := fun r => ∃ ns xs d, r = .val (.obj C ns xs) ∧ (ns.zip xs).lookup n = some d ∧ Q (.val d)
def eObj (C : Addr) (n : Str) (fa : ED) : ED := fun env Q E => frz fa env (objQ C n Q) E
def inOwnQ (neg : Bool) (C : Addr) (fn : FD) : Q2 := fun x y Q => ∃ ns xs d, y = .val (.obj C ns xs) ∧ x = .val d ∧ fn [.val (.obj C ns xs), .val d] (fun r => ∃ b, r = .val (.bl b) ∧ Q (.val (.bl (if neg then !b else b)))) (fun _ => False)
def lenOwnQ (C : Addr) (fn : FD) : QC := fun rs Q => ∃ ns xs, rs = [.val (.obj C ns xs)] ∧ fn [.val (.obj C ns xs)] (fun r => ∃ m : Int, r = .val (.int m) ∧ 0 ≤ m ∧ m < 2 ^ 63 ∧ Q (.val (.int m))) (fun _ => False)
theorem W_obj {C : Addr} {n : Str} : eObj C n fa env Q E = frz fa env (objQ C n Q) E := rfl
end
end DL
namespace DL
open PySem PySem.Spec PyProof.Rows
open L2 hiding St
theorem ArgR.append {K : PySem.W.Frag} {st : Addr} {F : Hp} : ∀ {rs ss : List RV} {vs us : List V}, ArgR K st F rs vs → ArgR K st F ss us → ArgR K st F (rs ++ ss) (vs ++ us)
  | [], _, _, _, h, k => by
    rw [show _ = _ from h]
    exact k
  | r :: rs, _, _, _, h, k => by
    obtain ⟨v, w, rfl, h1, h2⟩ := h
    exact ⟨v, _, rfl, h1, h2.append k⟩
section
variable {X : Cx} {CX : CXT} {k : Nat} {f C : Addr} {fd : FuncData} {ps : List Str} {sp : Sp} {E : XK} {pins : List (Addr × Obj)} {σ : L2.St} {H : Hp} {s : Shared} {Q : VK}
end
def mkK (C : Addr) (Q : RV → Prop) : RV → Prop := fun r => ∃ ns xs, r = .val (.obj C ns xs) ∧ Q r
theorem W_mkK {C : Addr} {ns : List Str} {xs : List D} {Q : RV → Prop} : mkK C Q (.val (.obj C ns xs)) = Q (.val (.obj C ns xs)) := propext ⟨fun ⟨_, _, _, h⟩ => h, fun h => ⟨_, _, rfl, h⟩⟩
def eMk (C : Addr) (n : Nat) (dd : List D) (fn : FD) (fa : AD) : ED := fun env Q E => fa env (fun rs => rs.length = n ∧ (∀ r ∈ rs, argOk r) ∧ app fn (rs ++ dd.map RV.val) (mkK C Q) E) E
section
variable {X : Cx} {g : G} {W : WX} {ca k n m : Nat} {f C : Addr} {fd : FuncData} {ps ks : List Str} {fn : FD} {fa : AD} {x : Str} {p pos : Pos} {e : Expr} {es : List Expr} {dd : List D} {dvs : List V} {ds : List Value} {kws : List Keyword}
def eMkK (C : Addr) (n : Nat) (pm : {α : Type} → List α → List α) (fn : FD) (fa : AD) : ED := fun env Q E => fa env (fun rs => rs.length = n ∧ (pm rs).length = n ∧ (∀ r ∈ rs, argOk r) ∧ app fn (pm rs) (mkK C Q) E) E
end
def iniW (C : Addr) : List (Str × ED) → En → List Str → List D → (RV → Prop) → (Exc → Prop) → Prop
  | [], _, ns, xs, Q, _ => Q (.val (.obj C ns xs))
  | (f, fe) :: L, env, ns, xs, Q, E => frz fe env (fun r => ∃ d, r = .val d ∧ iniW C L env (ns ++ [f]) (xs ++ [d]) Q E) E
theorem Ok.zero {g : G} {T T' : Nat} {F H : Hp} {env : En} {σ : L2.St} (h : Ok g T F env σ H) : Ok g T' F env σ H := ⟨h.grow, h.sto.any, h.len, h.val, h.stor, h.own, h.dis⟩
section
variable {X : Cx} {W : WX} {C : Addr} {c : Nat} {f : Str} {fe : ED} {e : Expr} {L : List (Str × ED)} {ss : List Stmt} {p1 p2 pos : Pos}
end
theorem Grow.at {st x : Addr} {F0 H0 F H : Hp} {o : HO} (g : Grow st F0 H0 F H) (h0 : H0 x = none) (hf : F x = none) : Grow st F0 H0 F (upd H x o) :=
  ⟨g.ff, fun b y q => by rw [upd_ne (ne_of_none q hf)]; exact g.fh b y q, fun b y n q => by rw [upd_ne (ne_of_none q h0)]; exact g.hh b y n q, g.nf, g.sf⟩
end DL
namespace DL
open PySem PySem.Spec PyProof.Rows
open L2 hiding St
structure OwnC (K : PySem.W.Frag) (C : Addr) : Prop where
  cl : Cls K C
  ha : PySem.W.findIn K (.ref C) "__class__" = some (some (.builtin "object.__class__"))
  hn : PySem.W.specialIn K (.builtin "object.__class__") "__get__" = some (some (.builtin "getset_descriptor.__get__"))
  ht : PySem.W.takesIn K (.builtin "object.__class__") = some true
  hm : PySem.W.mroIn K C (.type "object") = some true
  so : PySem.W.subIn K (.ref C) (.type "object") = some true
  isC : PySem.W.isClsIn K C = true
  tyC : PySem.W.typeIn K (.ref C) = some (.type "type")
  ss : PySem.W.subIn K (.ref C) (.ref C) = some true
  nb : PySem.W.findIn K (.ref C) "__bool__" = some none
  ne : PySem.W.findIn K (.ref C) "__ne__" = some (some (.builtin "object.__ne__"))
  s1 : PySem.W.subIn K (.type "tuple") (.ref C) = some false
  s2 : PySem.W.subIn K (.type "list") (.ref C) = some false
  s3 : PySem.W.subIn K (.type "int") (.ref C) = some false
  s4 : PySem.W.subIn K (.type "str") (.ref C) = some false
  s5 : PySem.W.subIn K (.type "bool") (.ref C) = some false
  s6 : PySem.W.subIn K (.type "NoneType") (.ref C) = some false
theorem OwnC.sub {K : PySem.W.Frag} {C : Addr} (c : OwnC K C) {d : D} {t : String} (h : tyName d = some t) : PySem.W.subIn K (.type t) (.ref C) = some false := by
  cases d <;> simp only [tyName, Option.some.injEq, reduceCtorEq] at h <;> subst h
  · exact c.s6
  · exact c.s5
  · exact c.s3
  · exact c.s4
  · exact c.s1
  · exact c.s2
def isOK (K : PySem.W.Frag) (C : Addr) (d : D) : Option Bool := match d with
  | .obj B _ _ => PySem.W.subIn K (.ref B) (.ref C)
  | d => (tyName d).map fun _ => false
def tyOk (K : PySem.W.Frag) (d : D) : Prop := match d with
  | .obj B _ _ => OwnC K B
  | _ => True
def isOQ (K : PySem.W.Frag) (C : Addr) : QC := fun rs Q => ∃ x d b, rs = [x, .val (.cls C)] ∧ asD x = some d ∧ tyOk K d ∧ isOK K C d = some b ∧ Q (.val (.bl b))
section
variable {X : Cx} {g : G} {W : WX} {ca cb k n : Nat} {f C : Addr} {fd : FuncData} {ps : List Str} {fn : FD} {fa fb : ED} {fs : AD} {x m : Str} {p pos apos : Pos} {a b e o : Expr} {es : List Expr}
def eProp (C : Addr) (fn : FD) (fa : ED) : ED := fun env Q E => frz fa env (fun r => ∃ ns xs, r = .val (.obj C ns xs) ∧ fn [r] Q (fun _ => False)) E
def eMeth (C : Addr) (n : Nat) (m : Str) (fn : FD) (fo : ED) (fa : AD) : ED := fun env Q E => frz fo env (fun r => ∃ ns xs, r = .val (.obj C ns xs) ∧ m ∉ ns ∧ fa env (fun rs => rs.length = n ∧ (∀ r ∈ rs, argOk r) ∧ app fn (r :: rs) Q E) E) E
def eMeth0 (C : Addr) (m : Str) (fn : FD) (fo : ED) : ED := fun env Q E => frz fo env (fun r => ∃ ns xs, r = .val (.obj C ns xs) ∧ m ∉ ns ∧ app fn [r] Q E) E
end
end DL
namespace DL
open PySem PySem.Spec PyProof.Rows
open L2 hiding St
section
variable {prog : Program} {w : World} {A : Around} {E : Value → Shared → Prop} {s : Shared}
end
section
variable {X : Cx} {CX : CXT} {n : Nat} {C f : Addr} {fd : FuncData} {ps : List Str} {sp : Sp} {E : XK}
end
def boolOQ (C : Addr) (fn : FD) : QC := fun rs Q => ∃ ns xs, rs = [.val (.obj C ns xs)] ∧ fn [.val (.obj C ns xs)] (fun r => ∃ m : Int, r = .val (.int m) ∧ 0 ≤ m ∧ m < 2 ^ 63 ∧ Q (.val (.bl (m != 0)))) (fun _ => False)
section
variable {X : Cx} {g : G} {W : WX} {ca cb k n : Nat} {f C : Addr} {fd : FuncData} {ps : List Str} {fn : FD} {fa fb : ED} {p pos : Pos} {a b : Expr} {env : En} {Q : RV → Prop} {E : Exc → Prop}
end
section
variable {prog : Program} {w : World} {A : Around} {E : Value → Shared → Prop} {s : Shared} {K : PySem.W.Frag} {x C L f : Addr} {h₀ : Heap} {m : Str → Option Value} {ox : Obj} {od : Option Obj} {tb b : Value}
end
end DL
namespace DL
open PySem PySem.Spec PyProof.Rows
open L2 hiding St
def nfOk (K : PySem.W.Frag) (C : Addr) (d : D) : Prop := match d with
  | .obj B _ _ => OwnC K B ∧ (B = C ∨ PySem.W.subIn K (.ref B) (.ref C) = some false)
  | d => (tyName d).isSome = true
section
variable {X : Cx} {CX : CXT} {n : Nat} {C f : Addr} {fd : FuncData} {ps : List Str} {sp : Sp} {E : XK}
end
def eqAQ (K : PySem.W.Frag) (neg : Bool) (C : Addr) (fn : FD) : Q2 := fun x y Q => ∃ ns xs d, x = .val (.obj C ns xs) ∧ y = .val d ∧ nfOk K C d ∧ fn [.val (.obj C ns xs), .val d] (fun r => ∃ b, r = .val (.bl b) ∧ Q (.val (.bl (if neg then !b else b)))) (fun _ => False)
section
variable {X : Cx} {g : G} {W : WX} {ca cb k n : Nat} {f C : Addr} {fd : FuncData} {ps : List Str} {fn : FD} {fa fb : ED} {p pos : Pos} {a b : Expr}
end
section
variable {prog : Program} {w : World} {A : Around} {E : Value → Shared → Prop} {s : Shared}
end
end DL
namespace DL
open PySem PySem.Spec PyProof.Rows
open L2 hiding St
section
variable {X : Cx} {g : G} {W : WX} {ca : Nat} {f C : Addr} {fl : Str} {fd : FuncData} {fa : ED} {tg e : Expr} {te : TE}
def iOwnD (C : Addr) (fl : Str) (fa : ED) : ID := fun env Q E => frz fa env (fun x => ∃ ns xs items, x = .val (.obj C ns xs) ∧ (ns.zip xs).lookup fl = some (.tup items) ∧ Q items) E
end
end DL
namespace DL
open PySem PySem.Spec PyProof.Rows
open L2 hiding St
section
variable {M : Model} {A : Around} {env : PySem.Env} {E : Value → Shared → Prop} {s : Shared}
def blkPost (M : Model) (A : Around) (E : Value → Shared → Prop) (fr : Option Addr) (use : Option (Value → Sem Unit)) (Q : Value → Shared → Prop) (acc : Value) (C : Addr) (r : Result) (s' : Shared) : Prop :=
  match r with
  | .ok f => compPost M A E use Q acc C (.ok f) s'
  | .error x => ∃ m, s'.heap.Ns C m ∧ ∀ h', Heap.SameBut C s'.heap h' → ∀ ce : PySem.Env, ce.frame = fr → wpAny M A (PySem.passOn "comprehension.variables-let-go" x ce : Sem Value) (fun _ _ => False) E { s' with heap := h' }
end
def XB (X Y : Cx) (W : WX) (u : Value) (s' : Shared) : Prop :=
  ∃ (a : Addr) (B : Heap) (sI : Shared) (pins : List (Addr × Obj)) (σ : L2.St) (H : Hp) (cls : Value) (d : Option Addr),
    u = .ref a ∧ L2.Inv Y pins σ H sI ∧ (∀ b o, sI.heap.get? b = some o → b ∉ frs X.stack → B.get? b = some o) ∧ sI.heap.UpToSlots s'.heap ∧
      (Sky B X.stack a (L2N.Zn cls d) Y.env.locals s'.heap ∨ HandSPX.HeldZ B X.stack a (L2N.Zn cls d) X.env.locals s'.heap) ∧ H a = none ∧ s'.os = sI.os ∧ AllBare s'.gens ∧ W cls d σ H
section
variable {M : Model} {A : Around} {E : Value → Shared → Prop} {s : Shared} {base : Heap} {env ce : PySem.Env} {outer : List PySem.Env} {e L C : Addr} {Z : Obj → Prop}
theorem held_field {Q : Value → Shared → Prop} (h : HandSPX.HeldZ base (env :: outer) e Z L s.heap) (hQ : ∀ T : Addr, Q (.ref T) s) : wpAny M A (field (.ref e) 1) Q E s := by
  obtain ⟨_, _, _, oe, vs, T, oT, ts, he, hz, hd, h1, _⟩ := h
  exact wpAny_field he hd h1 (hQ T)
end
end DL
namespace DL
open PySem PySem.Spec PyProof.Rows
open L2 hiding St
section
variable {X : Cx} {W : WX} {s0 : Shared} {H0 : Hp} {scope : Scope} {ce : PySem.Env} {fp : List Addr}
theorem held_but {B B' : Heap} {l : List PySem.Env} {a L C : Addr} {Z : Obj → Prop} {h h' : Heap} {m : Str → Option Value} (hh : HandSPX.HeldZ B l a Z L h) (hn : h.Ns C m) (g1 : ∀ b, b ≠ C → B'.get? b = B.get? b) (g2 : B'.get? C = none) (hl : C ∉ frs l) (sb : Heap.SameBut C h h') : HandSPX.HeldZ B' l a Z L h' := by
  obtain ⟨f1, f2, f3, oe, vs, T, oT, ts, he, hz, hd, h1, hnT, hTe, hT, hdT, h3⟩ := hh
  obtain ⟨o, es, ep, ho, ho2, _⟩ := hn
  have ne1 : a ≠ C := fun z => by
    rw [z, ho] at he
    cases he
    rw [ho2] at hd
    cases hd
  have ne2 : T ≠ C := fun z => by
    rw [z, ho] at hT
    cases hT
    rw [ho2] at hdT
    cases hdT
  have ff : ∀ {l : List PySem.Env}, C ∉ frs l → h.FunFrames B l → h'.FunFrames B' l := by
    intro l
    induction l with
    | nil => exact fun _ x => x
    | cons env l ih =>
      intro hn x
      obtain ⟨x1, ⟨L', o', x2, x3, x4, x5⟩, x6⟩ := x
      have nl : L' ≠ C := fun z => hn (by unfold frs; rw [List.mem_filterMap]; exact ⟨env, List.mem_cons_self, by rw [x2, z]⟩)
      refine ⟨x1, ⟨L', o', x2, (g1 L' nl).trans x3, (sb.2 L' nl).trans x4, x5⟩, ih (fun z => hn ?_) x6⟩
      unfold frs at z ⊢
      rw [List.mem_filterMap] at z ⊢
      obtain ⟨e, z1, z2⟩ := z
      exact ⟨e, List.mem_cons_of_mem _ z1, z2⟩
  exact ⟨fun b o e => by
    have nb : b ≠ C := fun z => by rw [z, g2] at e; cases e
    exact (sb.2 b nb).trans (f1 b o ((g1 b nb).symm.trans e)), (g1 a ne1).trans f2, ff hl f3, oe, vs, T, oT, ts, (sb.2 a ne1).trans he, hz, hd, h1, (g1 T ne2).trans hnT, hTe, (sb.2 T ne2).trans hT, hdT, h3⟩
theorem XB.out {u : Value} {C : Addr} {σ : L2.St} {pn : List (Addr × Obj)} {fr : Option Addr} (hs : X.stack = X.env :: X.outer) (hf : X.env.frame = some X.env.locals) (hfr : fr = X.env.frame) (tk : L2N.Takes X W) (fW : ∀ cls d σ σ' H, W cls d σ H → W cls d σ' H)
    (back : ∀ (pins : List (Addr × Obj)) (σ' : L2.St) (H : Hp) (sI : Shared), L2.Inv (X.blk s0 H0 scope ce fp) pins σ' H sI → L2.Inv X pn σ H sI ∧ FpOk X pn H C ∧ ∃ m, sI.heap.Ns C m)
    (a : Addr) (B : Heap) (sI : Shared) (pins : List (Addr × Obj)) (σ' : L2.St) (H : Hp) (cls : Value) (d : Option Addr) (s2 : Shared) (e : u = .ref a) (I : L2.Inv (X.blk s0 H0 scope ce fp) pins σ' H sI) (nb : ∀ b o, sI.heap.get? b = some o → b ∉ frs X.stack → B.get? b = some o) (up : sI.heap.UpToSlots s2.heap)
    (hh : HandSPX.HeldZ B X.stack a (L2N.Zn cls d) X.env.locals s2.heap) (na : H a = none) (os : s2.os = sI.os) (ag : AllBare s2.gens) (w : W cls d σ' H) {Q : Value → Shared → Prop} {use : Option (Value → Sem Unit)} {acc : Value} : blkPost (model X.prog X.w) X.A X.xe fr use Q acc C (.error u) s2 := by
  subst e
  obtain ⟨J, f, m, hn⟩ := back pins σ' H sI I
  obtain ⟨f0, f1, f2, f3, f4, f5⟩ := f
  have hn2 : s2.heap.Ns C m := up.ns hn
  have nst : C ∉ frs X.stack := by
    rw [hs]
    unfold frs
    rw [List.mem_filterMap]
    rintro ⟨env, z1, z2⟩
    rcases List.mem_cons.mp z1 with rfl | z1
    · rw [hf] at z2
      cases z2
      exact f1 rfl
    · refine f2 ?_
      show C ∈ frs X.outer
      unfold frs
      rw [List.mem_filterMap]
      exact ⟨env, z1, z2⟩
  refine ⟨m, hn2, fun h' sb ce2 hce2 => ?_⟩
  obtain ⟨B', b1, b2⟩ := restrict B fun b => decide (b ≠ C)
  obtain ⟨G, g1, g2⟩ := restrict sI.heap fun b => decide (b ≠ C)
  have b1 : ∀ b, b ≠ C → B'.get? b = B.get? b := fun b z => b1 b (decide_eq_true z)
  have b2 : B'.get? C = none := b2 C (by simp)
  have g1 : ∀ b, b ≠ C → G.get? b = sI.heap.get? b := fun b z => g1 b (decide_eq_true z)
  have g2 : G.get? C = none := g2 C (by simp)
  have hh' := held_but hh hn2 b1 b2 nst sb
  have J' : L2.Inv X pn σ H { sI with heap := G, toks := sI.toks } := J.turned (t' := sI.toks) (fun b o z e => (g1 b z).trans e) f0 f1 f3 f4 f5
  unfold PySem.passOn
  rw [hs] at hh'
  refine wpAny_bind (held_field hh' fun T => ?_)
  have ne : ¬ ((Value.ref T == Value.none) = true) := by simp
  rw [if_neg ne]
  rw [hce2, hfr, hf]
  refine wpAny_bind (HandSPX.setFlight_onZ hh' fun h3 hh3 up3 => wpAny_throw (tk _ _ ⟨a, B', { sI with heap := G }, pn, σ, H, cls, d, rfl, J', fun b o e hb => ?_, ?_, .inr (.inr (by rw [hs]; exact hh3)), na, os, ag, fW _ _ _ _ _ w⟩))
  · have z : b ≠ C := fun z => by
      have e' : G.get? b = some o := e
      rw [z, g2] at e'
      cases e'
    have e' : G.get? b = some o := e
    rw [b1 b z]
    exact nb b o ((g1 b z).symm.trans e') hb
  · intro b o e hnf
    have e' : G.get? b = some o := e
    have z : b ≠ C := fun z => by
      rw [z, g2] at e'
      cases e'
    obtain ⟨sl, e2⟩ := up b o ((g1 b z).symm.trans e') hnf
    obtain ⟨sl3, e3⟩ := up3 b { o with slots := sl } ((sb.2 b z).trans e2) hnf
    exact ⟨sl3, e3⟩
end
end DL
namespace DL
open PySem PySem.Spec PyProof.Rows
open L2 hiding St
section
variable {X : Cx} {W : WX} {pins : List (Addr × Obj)} {s : Shared} {σ : L2.St} {H : Hp} {Q : VK} {elt tg iter : Expr} {ifs : List Expr} {scope : Scope} {own : List (Str × Nat)} {pos pos' : Pos} {wi : TI} {g : TG} {tt : TT} {te : TE} {use : Option (Value → Sem Unit)} {Qf : Value → Shared → Prop}
end
end DL
namespace DL
open PySem PySem.Spec PyProof.Rows
open L2 hiding St
def lcX (b : BD) (ft : TD) (fe : ED) (env0 : En) (E : Exc → Prop) (Q : List D → Prop) : List D → List D → Prop
  | [], acc => Q acc
  | d :: ds, acc => b d env0 (fun env1 => ft env1 (fun t => if t = true then frz fe env1 (fun r => ∃ e, r = .val e ∧ lcX b ft fe env0 E Q ds (acc ++ [e])) E else lcX b ft fe env0 E Q ds acc) (fun _ => False))
def eLcX (fi : ID) (b : BD) (ft : TD) (fe : ED) (vs : List Nat) : ED := fun env Q E => fi env (fun items => items.length ≤ NN ∧ lcX b ft fe (wipeE env vs) E (fun acc => Q (.own acc)) items []) E
section
variable {X : Cx} {g : G} {W : WX} {ca cb cc : Nat} {elt tg iter : Expr} {ifs : List Expr} {scope : Scope} {own : List (Str × Nat)} {pos : Pos} {fi : ID} {b : BD} {sl : List Nat} {t : TG} {ft : TD} {fe : ED}
end
end DL
namespace DL
open PySem PySem.Spec PyProof.Rows
open L2 hiding St
section
variable {P : Program} {w : World} {K : PySem.W.Frag} {mg : Str → Option Value} {base : Heap} {x qual fl : Str} {stm : Stmt} {f C T Td : Addr} {fd : FuncData} {k : Nat} {ps ks : List Str} {dvs : List V} {p1 p2 p3 : Pos}
end
section
variable {X : Cx} {g : G} {W : WX} {ca cb k n m : Nat} {f C : Addr} {fd : FuncData} {ps ks : List Str} {fn : FD} {fa fb : ED} {fs : AD} {x : Str} {p pos : Pos} {a b e : Expr} {es : List Expr} {dd : List D} {dvs : List V} {env : En} {Q : RV → Prop} {E : Exc → Prop} {d : D} {ns : List Str} {xs : List D} {neg : Bool}
theorem W_mk : eMk C n dd fn fs env Q E = fs env (fun rs => rs.length = n ∧ (∀ r ∈ rs, argOk r) ∧ app fn (rs ++ dd.map RV.val) (mkK C Q) E) E := rfl
theorem W_mkKw {pm : {α : Type} → List α → List α} : eMkK C n pm fn fs env Q E = fs env (fun rs => rs.length = n ∧ (pm rs).length = n ∧ (∀ r ∈ rs, argOk r) ∧ app fn (pm rs) (mkK C Q) E) E := rfl
def iniK (C : Addr) (L : List (Str × ED)) (env : En) (ns : List Str) (xs : List D) (Q : RV → Prop) (E : Exc → Prop) : RV → Prop := fun r => ∃ d, r = .val d ∧ iniW C L env ns (xs ++ [d]) Q E
theorem W_ini0 : iniW C [] env ns xs Q E = Q (.val (.obj C ns xs)) := rfl
theorem W_ini1 {f : Str} {L : List (Str × ED)} : iniW C ((f, fa) :: L) env ns xs Q E = frz fa env (iniK C L env (ns ++ [f]) xs Q E) E := rfl
theorem W_ini2 {L : List (Str × ED)} : iniK C L env ns xs Q E (.val d) = iniW C L env ns (xs ++ [d]) Q E := propext ⟨fun ⟨_, h, q⟩ => by cases h; exact q, fun q => ⟨_, rfl, q⟩⟩
def blK (neg : Bool) (Q : RV → Prop) : RV → Prop := fun r => ∃ b, r = .val (.bl b) ∧ Q (.val (.bl (if neg then !b else b)))
theorem W_blK {b : Bool} : blK neg Q (.val (.bl b)) = Q (.val (.bl (if neg then !b else b))) := propext ⟨fun ⟨_, h, q⟩ => by cases h; exact q, fun q => ⟨_, rfl, q⟩⟩
def lnK (Q : RV → Prop) : RV → Prop := fun r => ∃ m : Int, r = .val (.int m) ∧ 0 ≤ m ∧ m < 2 ^ 63 ∧ Q (.val (.int m))
theorem W_lnK {m : Int} : lnK Q (.val (.int m)) = (0 ≤ m ∧ m < 2 ^ 63 ∧ Q (.val (.int m))) := propext ⟨fun ⟨_, h, q⟩ => by cases h; exact q, fun q => ⟨_, rfl, q⟩⟩
def lbK (Q : RV → Prop) : RV → Prop := fun r => ∃ m : Int, r = .val (.int m) ∧ 0 ≤ m ∧ m < 2 ^ 63 ∧ Q (.val (.bl (m != 0)))
theorem W_lbK {m : Int} : lbK Q (.val (.int m)) = (0 ≤ m ∧ m < 2 ^ 63 ∧ Q (.val (.bl (m != 0)))) := propext ⟨fun ⟨_, h, q⟩ => by cases h; exact q, fun q => ⟨_, rfl, q⟩⟩
theorem W_inO : inOwnQ neg C fn (.val d) (.val (.obj C ns xs)) Q = app fn [.val (.obj C ns xs), .val d] (blK neg Q) (fun _ => False) := propext ⟨fun ⟨_, _, _, h1, h2, q⟩ => by cases h1; cases h2; exact q, fun q => ⟨_, _, _, rfl, rfl, q⟩⟩
theorem W_lenO : lenOwnQ C fn [.val (.obj C ns xs)] Q = app fn [.val (.obj C ns xs)] (lnK Q) (fun _ => False) := propext ⟨fun ⟨_, _, h1, q⟩ => by cases h1; exact q, fun q => ⟨_, _, rfl, q⟩⟩
theorem W_boolO : boolOQ C fn [.val (.obj C ns xs)] Q = app fn [.val (.obj C ns xs)] (lbK Q) (fun _ => False) := propext ⟨fun ⟨_, _, h1, q⟩ => by cases h1; exact q, fun q => ⟨_, _, rfl, q⟩⟩
theorem W_eqA {K : PySem.W.Frag} : eqAQ K neg C fn (.val (.obj C ns xs)) (.val d) Q = (nfOk K C d ∧ app fn [.val (.obj C ns xs), .val d] (blK neg Q) (fun _ => False)) := propext ⟨fun ⟨_, _, _, h1, h2, h3, q⟩ => by cases h1; cases h2; exact ⟨h3, q⟩, fun ⟨h3, q⟩ => ⟨_, _, _, rfl, rfl, h3, q⟩⟩
def isoK (K : PySem.W.Frag) (C : Addr) (d : D) (Q : RV → Prop) : Prop := tyOk K d ∧ ∃ b, isOK K C d = some b ∧ Q (.val (.bl b))
theorem W_isO {K : PySem.W.Frag} : isOQ K C [.val d, .val (.cls C)] Q = isoK K C d Q := propext ⟨fun ⟨_, _, b, h1, h2, h3, h4, q⟩ => by cases h1; cases h2; exact ⟨h3, b, h4, q⟩, fun ⟨h3, b, h4, q⟩ => ⟨_, _, b, rfl, rfl, h3, h4, q⟩⟩
def prK (C : Addr) (fn : FD) (Q : RV → Prop) : RV → Prop := fun r => ∃ ns xs, r = .val (.obj C ns xs) ∧ fn [r] Q (fun _ => False)
theorem W_prop : eProp C fn fa env Q E = frz fa env (prK C fn Q) E := rfl
theorem W_prK : prK C fn Q (.val (.obj C ns xs)) = app fn [.val (.obj C ns xs)] Q (fun _ => False) := propext ⟨fun ⟨_, _, h1, q⟩ => by cases h1; exact q, fun q => ⟨_, _, rfl, q⟩⟩
def itK (C : Addr) (fl : Str) (P : List D → Prop) : RV → Prop := fun x => ∃ ns xs items, x = .val (.obj C ns xs) ∧ (ns.zip xs).lookup fl = some (.tup items) ∧ P items
theorem W_itO {fl : Str} {P : List D → Prop} : iOwnD C fl fa env P E = frz fa env (itK C fl P) E := rfl
def lcXG (b : BD) (ft : TD) (fe : ED) (env0 : En) (E : Exc → Prop) (P : List D → Prop) (items acc : List D) (_u : Fx (b, ft, fe, P, E) := ()) : Prop := lcX b ft fe env0 E P items acc
theorem W_lcX {fi : ID} {bd : BD} {ft : TD} {fe : ED} {vs : List Nat} : eLcX fi bd ft fe vs env Q E = fi env (fun items => items.length ≤ NN ∧ lcXG bd ft fe (wipeE env vs) E (fun acc => Q (.own acc)) items []) E := rfl
end
end DL
namespace DL
open PySem PySem.Spec PyProof.Rows
open L2 hiding St
def Dat : Nat → D → Prop
  | _, .non => True
  | _, .int _ => True
  | _, .str s => AllV s
  | n + 1, .tup xs => ∀ x ∈ xs, Dat n x
  | n + 1, .lst xs => ∀ x ∈ xs, Dat n x
  | _, _ => False
theorem Dat.strs {n : Nat} {ss : List Str} (h : ∀ s ∈ ss, AllV s) : Dat (n + 1) (.tup (ss.map D.str)) := fun x m => by
  obtain ⟨s, hs, rfl⟩ := List.mem_map.mp m
  cases n <;> exact h s hs
theorem Dat.up {n : Nat} : ∀ {d : D}, Dat n d → Dat (n + 1) d := by
  induction n with
  | zero => intro d h; cases d <;> first | exact h | exact h.elim
  | succ n ih =>
    intro d h
    cases d with
    | tup xs => exact fun x m => ih (h x m)
    | lst xs => exact fun x m => ih (h x m)
    | _ => first | exact h | exact h.elim
theorem Dat.le {n m : Nat} {d : D} (h : Dat n d) (l : n ≤ m) : Dat m d := by
  induction l with
  | refl => exact h
  | step _ ih => exact ih.up
theorem shs_of {n : Nat} (ih : ∀ d, Dat n d → okPy d = true ∧ (pyD d).canLay0 = true ∧ (pyD d).depth ≤ n) : ∀ {xs : List D}, (∀ x ∈ xs, Dat n x) → okPys xs = true ∧ PyData.canLayAll0 (pyDs xs) = true ∧ PyData.depthAll (pyDs xs) ≤ n
  | [], _ => ⟨rfl, by simp only [pyDs, PyData.canLayAll0], by simp only [pyDs, PyData.depthAll]; omega⟩
  | x :: xs, h => by
    obtain ⟨a, b, c⟩ := ih x (h x List.mem_cons_self)
    obtain ⟨a2, b2, c2⟩ := shs_of ih fun y m => h y (List.mem_cons_of_mem _ m)
    simp only [okPys, pyDs, PyData.canLayAll0, PyData.depthAll, a, b, a2, b2, Bool.and_self, true_and]
    omega
theorem dat_sh : ∀ (n : Nat) (d : D), Dat n d → okPy d = true ∧ (pyD d).canLay0 = true ∧ (pyD d).depth ≤ n
  | n, .non, _ => ⟨rfl, by simp only [pyD, PyData.canLay0], by simp only [pyD, PyData.depth]; omega⟩
  | n, .int i, _ => ⟨rfl, by simp only [pyD, PyData.canLay0], by simp only [pyD, PyData.depth]; omega⟩
  | n, .str s, h => by
    have h' : AllV s := by cases n <;> exact h
    refine ⟨rfl, ?_, by simp only [pyD, PyData.depth]; omega⟩
    have := (canLay_strs (ss := [s]) (by simpa using h')).1
    simpa [PyData.canLayAll0, pyD] using this
  | n + 1, .tup xs, h => by
    obtain ⟨a, b, c⟩ := shs_of (dat_sh n) h
    exact ⟨by simp only [okPy]; exact a, by simp only [pyD, PyData.canLay0]; exact b, by simp only [pyD, PyData.depth]; omega⟩
  | n + 1, .lst xs, h => by
    obtain ⟨a, b, c⟩ := shs_of (dat_sh n) h
    exact ⟨by simp only [okPy]; exact a, by simp only [pyD, PyData.canLay0]; exact b, by simp only [pyD, PyData.depth]; omega⟩
  | 0, .tup _, h => h.elim
  | 0, .lst _, h => h.elim
  | 0, .bl _, h => h.elim
  | _ + 1, .bl _, h => h.elim
  | 0, .obj _ _ _, h => h.elim
  | _ + 1, .obj _ _ _, h => h.elim
  | 0, .ty _, h => h.elim
  | _ + 1, .ty _, h => h.elim
  | 0, .cls _, h => h.elim
  | _ + 1, .cls _, h => h.elim
theorem dat_shaped {n : Nat} {d : D} (h : Dat n d) (l : n ≤ 64) : SeqAt.shaped (pyD d) = true := by
  obtain ⟨_, b, c⟩ := dat_sh n d h
  simp only [SeqAt.shaped, b, Bool.true_and, decide_eq_true_eq]
  omega
theorem eqvs_of {n : Nat} (ih : ∀ a b, Dat n a → Dat n b → (PyData.eqv (pyD a) (pyD b) = true ↔ a = b)) : ∀ {xs ys : List D}, (∀ x ∈ xs, Dat n x) → (∀ y ∈ ys, Dat n y) → (PyData.eqvAll (pyDs xs) (pyDs ys) = true ↔ xs = ys)
  | [], [], _, _ => by simp [pyDs, PyData.eqvAll]
  | [], y :: ys, _, _ => by simp [pyDs, PyData.eqvAll]
  | x :: xs, [], _, _ => by simp [pyDs, PyData.eqvAll]
  | x :: xs, y :: ys, hx, hy => by
    simp only [pyDs, PyData.eqvAll, Bool.and_eq_true, List.cons.injEq]
    rw [ih x y (hx x List.mem_cons_self) (hy y List.mem_cons_self), eqvs_of ih (fun z m => hx z (List.mem_cons_of_mem _ m)) (fun z m => hy z (List.mem_cons_of_mem _ m))]
theorem eqv_dat (n : Nat) : ∀ a b : D, Dat n a → Dat n b → (PyData.eqv (pyD a) (pyD b) = true ↔ a = b) := by
  induction n with
  | zero =>
    intro a b ha hb
    cases a <;> cases b <;> first | exact ha.elim | exact hb.elim | simp [pyD, PyData.eqv]
  | succ n ih =>
    intro a b ha hb
    cases a with
    | tup xs =>
      cases b with
      | tup ys => simp only [pyD, PyData.eqv, D.tup.injEq]; exact eqvs_of ih ha hb
      | _ => first | exact hb.elim | simp [pyD, PyData.eqv]
    | lst xs =>
      cases b with
      | lst ys => simp only [pyD, PyData.eqv, D.lst.injEq]; exact eqvs_of ih ha hb
      | _ => first | exact hb.elim | simp [pyD, PyData.eqv]
    | _ => cases b <;> first | exact ha.elim | exact hb.elim | simp [pyD, PyData.eqv]
section
variable {X : Cx} {g : G} {W : WX} {ca cb n : Nat} {fa fb : ED} {pos : Pos} {a b : Expr} {neg : Bool} {d : D} {ds : List D} {Q : RV → Prop}
def inDQ (neg : Bool) : Q2 := fun x y Q => ∃ a ds, asD x = some a ∧ asSeq y = some ds ∧ okPy a = true ∧ okPys ds = true ∧ SeqAt.shaped (pyD a) = true ∧ SeqAt.shaped (.tuple (pyDs ds)) = true ∧ Q (.val (.bl (if neg then !(pyDs ds).any (fun z => PyData.eqv z (pyD a)) else (pyDs ds).any fun z => PyData.eqv z (pyD a))))
def inDK (neg : Bool) (a : D) (ds : List D) (Q : RV → Prop) (_u : Fx Q := ()) : Prop := okPy a = true ∧ okPys ds = true ∧ SeqAt.shaped (pyD a) = true ∧ SeqAt.shaped (.tuple (pyDs ds)) = true ∧ Q (.val (.bl (if neg then !(pyDs ds).any (fun z => PyData.eqv z (pyD a)) else (pyDs ds).any fun z => PyData.eqv z (pyD a))))
theorem W_inD1 : inDQ neg (.val d) (.val (.tup ds)) Q = inDK neg d ds Q := propext ⟨fun ⟨_, _, h1, h2, q⟩ => by cases h1; cases h2; exact q, fun q => ⟨_, _, rfl, rfl, q⟩⟩
theorem W_inD2 : inDQ neg (.val d) (.val (.lst ds)) Q = inDK neg d ds Q := propext ⟨fun ⟨_, _, h1, h2, q⟩ => by cases h1; cases h2; exact q, fun q => ⟨_, _, rfl, rfl, q⟩⟩
theorem W_inD3 : inDQ neg (.val d) (.bor ds) Q = inDK neg d ds Q := propext ⟨fun ⟨_, _, h1, h2, q⟩ => by cases h1; cases h2; exact q, fun q => ⟨_, _, rfl, rfl, q⟩⟩
end
end DL
namespace DL
open PySem PySem.Spec L2
abbrev tupsD (ls : List (List Str)) : D := .tup (ls.map fun l => .tup (l.map D.str))
abbrev bk (C : Addr) (n : List Str) (ls : List (List Str)) : D := .obj C ["_names", "_lists"] [.tup (n.map D.str), .tup (ls.map fun l => .tup (l.map D.str))]
section
variable {c : EK → Addr} {a b o : Option Er} {P P' : Prop} {E E' : Exc → Prop} {α β : Type} {f : α → Option Er} {l : List α} {Q : RV → Prop} {CB : Addr}
theorem toldK_or : toldK c (orDue a b) P E = toldK c a (toldK c b P E) E := by cases a <;> rfl
theorem toldK_go (h : toldK c o P E) (g : o = none → P → P') : toldK c o P' E := by
  cases o with
  | none => exact g rfl h
  | some e => exact h
def RowsD (ds : List D) (rl : List (List D)) : Prop := ds.map seqD = rl.map some ∧ ds.length ≤ 900 ∧ ∀ r ∈ rl, FlatL r
theorem RowsD.len {ds : List D} {rl : List (List D)} (h : RowsD ds rl) : rl.length = ds.length := by
  have := congrArg List.length h.1
  simpa using this.symm
theorem RowsD.at {ds : List D} {rl : List (List D)} {i : Nat} {d : D} (h : RowsD ds rl) (e : ds[i]? = some d) : ∃ r, rl[i]? = some r ∧ seqD d = some r ∧ FlatL r := by
  have e2 : (ds.map seqD)[i]? = some (seqD d) := by rw [List.getElem?_map, e]; rfl
  rw [h.1, List.getElem?_map] at e2
  obtain ⟨r, h1, h2⟩ := Option.map_eq_some_iff.mp e2
  exact ⟨r, h1, h2.symm, h.2.2 r (List.mem_of_getElem? h1)⟩
def LsV (n : List Str) (ls : List (List Str)) : Prop := (∀ s ∈ n, AllV s) ∧ ∀ l ∈ ls, ∀ s ∈ l, AllV s
theorem strs_inj {a b : List Str} : (a.map D.str = b.map D.str ↔ a = b) := ⟨fun h => by
  have := congrArg strsD h
  rwa [strsD_map, strsD_map] at this, fun h => by rw [h]⟩
theorem tups_inj : ∀ {a b : List (List Str)}, ((a.map fun l => D.tup (l.map D.str)) = (b.map fun l => D.tup (l.map D.str)) ↔ a = b)
  | [], [] => by simp
  | [], _ :: _ => by simp
  | _ :: _, [] => by simp
  | x :: xs, y :: ys => by
    simp only [List.map_cons, List.cons.injEq, D.tup.injEq]
    rw [tups_inj, strs_inj]
end
end DL
namespace PySem
open Sem (wp)
open AutoSeq1 (wpAny_loadPart')
abbrev tupIt (l : Addr) : Obj := { cls := .type "tuple_iterator", data := .fields #[.ref l, .int 0 0] }
abbrev enumOb (it : Addr) : Obj := { cls := .type "enumerate", data := .fields #[.none, .bool false, .ref it, rawInt 0, .none, .none] }
theorem enum_newT (a : Addr) (its : Array Value) (m : Nat) (dc : Option Addr) (slt : Array (Option Value)) :
    Meets (Builtin.«enumerate.__new__» ⟨[.type "enumerate", .ref a], []⟩) (fun _ R s => s.heap.get? a = some { cls := .type "tuple", dict := dc, data := .seq its m, slots := slt } ∧
      R (.ok (.ret (.ref (s.heap.push (tupIt a)).objs.size))) { s with heap := (s.heap.push (tupIt a)).push (enumOb s.heap.objs.size) }) :=
  .of_wp fun prog w A R s h => by
    obtain ⟨hp, gn, dw, tk, os⟩ := s
    obtain ⟨ha, h⟩ := h
    have hsub := sub_enumerate
    have hT : Heap.IsTuple (Shared.heap ⟨hp, gn, dw, tk, os⟩) a its := ⟨_, ha, rfl, m, rfl⟩
    wp_walk using wpAny_loadPart' ha
    refine wpAny_stack_any fun st => wpAny_pure ?_
    split
    · rename_i k _ _ _ _ _
      cases (k == Value.type "enumerate") <;> (wp_walk using wpAny_loadPart' ha, wpAny_pyIter_tuple hT; exact ⟨_, rfl, h⟩)
    · wp_walk using wpAny_loadPart' ha, wpAny_pyIter_tuple hT; exact ⟨_, rfl, h⟩
theorem enum_callT {prog : Program} {w : World} {A : Around} {E : Value → Shared → Prop} {s : Shared} {a : Addr} {its : Array Value} {Q : Value → Shared → Prop} (hT : s.heap.IsTuple a its)
    (h : ∀ h', IsEnum h' (s.heap.objs.size + 1) s.heap.objs.size 0 .none → h'.IsTupleIter s.heap.objs.size a 0 → (∀ b o, s.heap.get? b = some o → h'.get? b = some o) → Q (.ref (s.heap.objs.size + 1)) { s with heap := h' }) :
    wpAny (model prog w) A (call (.type "enumerate") [.ref a]) Q E s := by
  obtain ⟨⟨c, dc, dt, sl⟩, hl, hc, n, hd⟩ := hT
  simp only at hc hd
  subst hc hd
  refine callType_new F.called_enumerate (by decide) (F.typeCall_enumerate_1 _) (F.newCall_enumerate_1 _) (fun obj => F.args_object_init_2 obj _) F.entry_enumerate_new (enum_newT a its n dc sl) ⟨hl, ?_⟩
  have hz : (s.heap.push (tupIt a)).objs.size = s.heap.objs.size + 1 := Heap.size_push ..
  show _ ∧ _
  rw [hz]
  have he : IsEnum ((s.heap.push (tupIt a)).push (enumOb s.heap.objs.size)) (s.heap.objs.size + 1) s.heap.objs.size 0 .none := by
    have := Heap.get?_push_size (s.heap.push (tupIt a)) (o := enumOb s.heap.objs.size) rfl
    rw [hz] at this
    exact this
  exact ⟨⟨_, he, rfl⟩, h _ he ⟨_, Heap.get?_push_of_some _ (Heap.get?_push_size _ rfl), rfl, rfl⟩ fun b o x => Heap.get?_push_of_some _ (Heap.get?_push_of_some _ x)⟩
end PySem
namespace DL
open PySem PySem.Spec PyProof.Rows
open L2 hiding St
def Iten (K : PySem.W.Frag) (a : Addr) : It :=
  ⟨fun i H => ∃ (ys : List V) (y : V), SqT K H a ys ∧ ys[i]? = some y, fun i H v H' => ∃ p y, v = .ref p ∧ H p = none ∧ H' = upd H p (.tup [.int (i : Nat), y]) ∧ ∀ ys, SqT K H a ys → ys[i]? = some y, fun i H => ∃ ys : List V, SqT K H a ys ∧ ys.length ≤ i⟩
theorem turn_enumT {P : Program} {w : World} {K : PySem.W.Frag} {elts : List Expr} {kk : Nat} {tpos : Pos} (a e it : Addr) :
    Turn P w K (.Tuple elts kk tpos) (Iten K a) [e, it] e (fun i h => (∃ old, IsEnum h e it ((i : Nat) : Int) old) ∧ h.IsTupleIter it a i ∧ e ≠ it) where
  mem := by simp
  obj := fun i h st b hb => by
    obtain ⟨⟨old, he⟩, ⟨o, ho, hc, hd⟩, _⟩ := st
    rcases (show b = e ∨ b = it by simpa using hb) with rfl | rfl
    · exact ⟨_, he, fun v q => nomatch q⟩
    · exact ⟨o, ho, fun v q => by rw [hd] at q; cases q⟩
  keep := fun i h h' st k => let ⟨⟨old, he⟩, hi, hne⟩ := st; ⟨⟨old, k e (by simp) _ he⟩, hi.at fun o q => k it (by simp) o q, hne⟩
  item := by
    intro X hP hw hK hc i pins s σ H E I hf st hg
    subst hP hw hK
    obtain ⟨⟨old, he⟩, hit, hne⟩ := st
    obtain ⟨ys, y, hq, hy⟩ := hg
    obtain ⟨its, rv, p, hz⟩ := I.tuple hq
    obtain ⟨u, hu, ru⟩ := rv.get hy
    have hel : e < s.heap.objs.size := Heap.lt_size he
    have hil : it < s.heap.objs.size := by
      obtain ⟨_, q, _⟩ := hit
      exact Heap.lt_size q
    have p' : s.heap.IsTuple a its.toArray := p
    have nae : e ≠ a := fun z => by
      obtain ⟨o, ho, hoc, _⟩ := p'
      rw [← z, he] at ho
      cases ho
      exact absurd (Value.type.inj hoc) (by decide)
    have nai : a ≠ it := fun z => by
      obtain ⟨o, ho, hoc, _⟩ := p'
      obtain ⟨o2, ho2, hoc2, _⟩ := hit
      rw [z, ho2] at ho
      cases ho
      rw [hoc2] at hoc
      exact absurd (Value.type.inj hoc) (by decide)
    refine wpAny_pyNext_enum_itemD (Draws.tuple (show X.A.in1.handled = none from I.ok.hd hc) it a nai its.toArray) he ⟨hit, p'⟩ (by have := (List.getElem?_eq_some_iff.mp hu).1; simpa using this) hne (by simp [nae, hne]) fun x h' tk hx ho st' hT hsz hk => ?_
    obtain rfl : x = u := by
      rw [show its.toArray[i]? = its[i]? by simp, hu] at hx
      exact (Option.some.inj hx).symm
    obtain ⟨hit', _⟩ := st'
    refine ⟨_, rfl, wpAny_letOwnedTupleGo_enum (s := { s with heap := h', toks := tk + 1 }) ho fun h'' he' sb => ?_⟩
    have hT2 : h''.get? s.heap.objs.size = some { cls := .type "tuple", data := .seq #[.int i tk, x] } := (sb.2 _ (Nat.ne_of_gt hel)).trans hT
    have fresh : ObjOk X.prog X.w (upd H s.heap.objs.size (.tup [.int (i : Nat), y])) h'' s.heap.objs.size (.tup [.int (i : Nat), y]) := ⟨by show 2 ≤ sizeLine; decide, [.int i tk, x], .cons ⟨_, rfl⟩ (.cons ru .nil), ⟨_, hT2, rfl, _, rfl⟩⟩
    have I1 : Inv X pins σ (upd H s.heap.objs.size (.tup [.int (i : Nat), y])) { s with heap := h'', toks := tk + 1 } :=
      I.turnedNew (ch := [e, it]) (fun b ob hb q => (sb.2 b (fun z => hb (by simp [z]))).trans (hk b ob (fun z => hb (by simp [z])) (fun z => hb (by simp [z])) q)) hf (Nat.le_refl _) fresh
    refine ⟨.ref s.heap.objs.size, _, I1, rfl, ⟨_, y, rfl, I.hok.fresh (Nat.le_refl _), rfl, fun zs hy' => by rw [I.tuple_inj hy' hq]; exact hy⟩, ⟨⟨x, ?_⟩, hit'.at fun o q => (sb.2 it (Ne.symm hne)).trans q, hne⟩, fun b hb => ?_⟩
    · rw [show ((i + 1 : Nat) : Int) = (i : Int) + 1 by omega]
      exact he'
    · have hb' : b < s.heap.objs.size := by
        rcases (show b = e ∨ b = it by simpa using hb) with rfl | rfl
        · exact hel
        · exact hil
      rw [upd_ne (Nat.ne_of_lt hb')]
      exact (hf b hb).1
  done := by
    intro X hP hw hK hc i pins s σ H E I hf st hg
    subst hP hw hK
    obtain ⟨⟨old, he⟩, hit, hne⟩ := st
    obtain ⟨ys, hq, hy⟩ := hg
    obtain ⟨its, rv, p, hz⟩ := I.tuple hq
    obtain ⟨f0, f1, f2, f3, f4, f5⟩ := hf it (by simp)
    have hl := rv.length
    have p' : s.heap.IsTuple a its.toArray := p
    have hd : X.A.in1.handled = none := I.ok.hd hc
    have D : Draws X.prog X.w X.A.in1 it [it, a] 0 (fun _ _ => True) (fun _ h => h.IsTupleIter it a i ∧ h.IsTuple a its.toArray) :=
      ⟨fun _ _ st => let ⟨o, ho, _⟩ := st.1; ⟨o, ho⟩, fun _ _ _ st k => ⟨st.1.at fun o q => k it (by simp) o q, let ⟨o, q, r⟩ := st.2; ⟨o, k a (by simp) o q, r⟩⟩, fun _ _ _ _ h => absurd h (Nat.not_lt_zero _), fun s Q E st hE => wpAny_nextOf_tuple_end hd st.1 st.2 (by simp; omega) hE⟩
    exact wpAny_pyNext_enum_endD D he ⟨hit, p'⟩ fun h' eb => ⟨rfl, I.turned (t' := s.toks) (fun b o hb q => eb b o hb q) f0 f1 f3 f4 f5⟩
  self := fun A i s Q E st h => let ⟨⟨_, he⟩, _⟩ := st; wpAny_pyIter_enum he h
def iEnT (K : PySem.W.Frag) (ta : TA) : TI := fun σ H R => ta σ H fun vs H1 => ∃ a ys, vs = [.ref a] ∧ ((SqT K H1 a ys ∧ R (Iten K a) H1) ∨ (SqL K H1 a ys ∧ R (Ite K a) H1))
theorem pi_enT {X : Cx} {e : Expr} {ta : TA} {p pos tpos : Pos} {elts : List Expr} {kk : Nat} (hg : Gl X "enumerate") (hm : X.mg "enumerate" = none) (ha : PA X [e] ta) (hs : starEach [e] X.env = [(false, eval e X.env)] := by rfl) : PI X (.Tuple elts kk tpos) (.Call (.Name "enumerate" p) [e] [] pos) (iEnT X.K ta) := by
  refine ⟨fun pins s σ H R I h => ?_⟩
  refine Call_ (ld_blt I hg hm boot_enumerate (PyProof.Rows.callWith_type1 (thn (ha.run pos pins s σ H _ I h) fun us s1 ⟨vs, H1, I1, r1, a, ys, ex, q1⟩ => ?_) hs rfl))
  subst ex
  cases r1 with
  | cons r rr =>
    cases rr
    cases r
    have fp : ∀ b ∈ [s1.heap.objs.size + 1, s1.heap.objs.size], s1.heap.objs.size ≤ b := fun b hb => by
      rcases (show b = s1.heap.objs.size + 1 ∨ b = s1.heap.objs.size by simpa using hb) with rfl | rfl
      · exact Nat.le_add_right _ _
      · exact Nat.le_refl _
    rcases q1 with ⟨hq, q⟩ | ⟨hq, q⟩
    · obtain ⟨its, rv, p', hz⟩ := I1.tuple hq
      refine enum_callT (show s1.heap.IsTuple a its.toArray from p') fun h' he hit hk => wpAny_pyIter_enum he ?_
      have I2 : Inv X pins σ H1 { s1 with heap := h' } := I1.kept (t' := s1.toks) hk
      exact ⟨s1.heap.objs.size + 1, [s1.heap.objs.size + 1, s1.heap.objs.size], _, _, H1, rfl, I2, turn_enumT a (s1.heap.objs.size + 1) s1.heap.objs.size, ⟨⟨.none, he⟩, hit, Nat.succ_ne_self _⟩, fun b hb => I1.fpOk (fp b hb) (I1.hok.fresh (fp b hb)), q⟩
    · obtain ⟨its, rv, p', hz⟩ := I1.list hq
      refine call_enumerate_list p'.isList fun h' he hit hsz hk => wpAny_pyIter_enum he ?_
      have I2 : Inv X pins σ H1 { s1 with heap := h' } := I1.kept (t' := s1.toks) hk
      exact ⟨s1.heap.objs.size + 1, [s1.heap.objs.size + 1, s1.heap.objs.size], _, _, H1, rfl, I2, turn_enum a (s1.heap.objs.size + 1) s1.heap.objs.size, ⟨⟨.none, he⟩, hit, Nat.succ_ne_self _⟩, fun b hb => I1.fpOk (fp b hb) (I1.hok.fresh (fp b hb)), q⟩
def enumD (ds : List D) : List D := ds.zipIdx.map fun p => .tup [.int (p.2 : Nat), p.1]
theorem enumD_at {ds : List D} {i : Nat} : (enumD ds)[i]? = ds[i]?.map fun d => D.tup [.int (i : Nat), d] := by
  unfold enumD
  rw [List.getElem?_map, List.getElem?_zipIdx, Option.map_map]
  simp [Function.comp_def]
theorem enumD_len {ds : List D} : (enumD ds).length = ds.length := by simp [enumD]
section
variable {X : Cx} {g : G} {W : WX} {ca : Nat} {Fs : Hp} {fs : AD}
theorem wk_enum {a : Addr} {vs : List V} {items : List D} {J : It} (hl : RepL g.K Fs items vs) (gs : ∀ (i : Nat) F H x, Ex Fs F → Ex F H → vs[i]? = some x → J.go i H) (ss : ∀ (i : Nat) F H, Ex Fs F → Ex F H → vs.length ≤ i → J.stop i H)
    (ys : ∀ (i : Nat) F H x H', Ex Fs F → Ex F H → J.yld i H x H' → ∃ p y, x = .ref p ∧ H p = none ∧ H' = upd H p (.tup [.int (i : Nat), y]) ∧ vs[i]? = some y) : Wk g J (enumD items) Fs := by
  refine ⟨fun {i F H} e1 e2 h => ?_, fun {i F H} e1 e2 h => ss i F H e1 e2 (by rw [← hl.length, ← enumD_len]; exact h), fun {i T F H env σ x H'} hlt e1 ok h => ?_⟩
  · have h2 : i < vs.length := by rw [← hl.length, ← enumD_len]; exact h
    exact gs i F H _ e1 e2 (List.getElem?_eq_getElem h2)
  · obtain ⟨p, y, rfl, hp, rfl, h2⟩ := ys i F H x H' e1 ok.fh h
    obtain ⟨d, h3, h4⟩ := hl.back h2
    refine ⟨.tup [.int (i : Nat), d], _, by rw [enumD_at, h3]; rfl, Grow.newF ok.fh ok.sto.free ok.sto.some hp, ok.newF hp, ?_⟩
    simp only [Rep, RepL]
    exact ⟨p, _, rfl, .inl (.inl upd_same), _, _, rfl, rfl, _, _, rfl, (h4.mono e1).mono (Evl.Ex.new (Evl.fresh_back ok.fh hp)), rfl⟩
def enK (P : List D → Prop) : List RV → Prop := fun rs => match rs with
  | [.val (.tup ds)] => P (enumD ds)
  | [.val (.lst ds)] => P (enumD ds)
  | _ => False
def iEnD (fs : AD) : ID := fun env P E => fs env (enK P) E
theorem di_enumerate {e : Expr} {p pos tpos : Pos} {elts : List Expr} {kk : Nat} (cy : Cy X g W) (hg : Gl X "enumerate") (hm : X.mg "enumerate" = none) (ha : DA X g W ca [e] fs) (hs : starEach [e] X.env = [(false, eval e X.env)] := by rfl) : DI X g W ca (.Tuple elts kk tpos) (.Call (.Name "enumerate" p) [e] [] pos) (iEnD fs) := by
  have hp := pi_enT (tpos := tpos) (elts := elts) (kk := kk) (p := p) (pos := pos) hg hm ha.pa hs
  rw [cy.k] at hp
  refine ⟨PIimp hp fun σ H R ⟨T, F, env, hT, ok, h⟩ => ?_, fun env Q Q' E E' hq he h => ha.mono env _ _ _ _ (fun rs q => ?_) he h⟩
  · refine run_a ok (by omega) ha.mono h (fun rs q F1 H1 vs w o rx => ?_) (exE.shift ok.refl (by omega))
    unfold enK at q
    split at q
    · obtain ⟨v, rfl, r⟩ := rs1 (rs := []) rx
      simp only [RepR, Rep] at r
      obtain ⟨a, us, rfl, h1, h2⟩ := r
      have sq : ∀ {F H : Hp}, Ex F1 F → Ex F H → SqT g.K H a us := fun e1 e2 => Evl.ex_t e2 (Evl.ex_t e1 h1)
      exact ⟨a, us, rfl, .inl ⟨Evl.ex_t o.fh h1, q F1 H1 _ w o (wk_enum (a := a) h2 (fun i F H x e1 e2 hx => ⟨us, x, sq e1 e2, hx⟩) (fun i F H e1 e2 hx => ⟨us, sq e1 e2, hx⟩) (fun i F H x H' e1 e2 ⟨p, y, k1, k2, k3, k4⟩ => ⟨p, y, k1, k2, k3, k4 us (sq e1 e2)⟩))⟩⟩
    · obtain ⟨v, rfl, r⟩ := rs1 (rs := []) rx
      simp only [RepR, Rep] at r
      obtain ⟨a, us, rfl, h1, h2⟩ := r
      have sq : ∀ {F H : Hp}, Ex F1 F → Ex F H → SqL g.K H a us := fun e1 e2 => .inl (.inl (e2 _ _ (e1 _ _ h1)))
      exact ⟨a, us, rfl, .inr ⟨.inl (.inl (o.fh _ _ h1)), q F1 H1 _ w o (wk_enum (a := a) h2 (fun i F H x e1 e2 hx => ⟨us, x, sq e1 e2, hx⟩) (fun i F H e1 e2 hx => ⟨us, sq e1 e2, hx⟩) (fun i F H x H' e1 e2 ⟨p, y, k1, k2, k3, k4⟩ => ⟨p, y, k1, k2, k3, k4 us (sq e1 e2)⟩))⟩⟩
    · exact q.elim
  · unfold enK at q ⊢
    split
    · exact hq _ q
    · exact hq _ q
    · split at q <;> first | exact q.elim | simp_all
theorem W_en {env : En} {P : List D → Prop} {E : Exc → Prop} : iEnD fs env P E = fs env (enK P) E := rfl
theorem W_en1 {P : List D → Prop} {ds : List D} : enK P [.val (.tup ds)] = P (enumD ds) := rfl
theorem W_en2 {P : List D → Prop} {ds : List D} : enK P [.val (.lst ds)] = P (enumD ds) := rfl
end
section
variable {P : En → Prop} {env : En} {ds : List D} {d : D} {n : Nat} {b : BD} {bs : List D → En → (En → Prop) → Prop}
theorem W_bt : bTup n bs (.tup ds) env P = (ds.length = n ∧ bs ds env P) := rfl
theorem W_bc : bCons b bs (d :: ds) env P = b d env (fun env' => bs ds env' P) := rfl
theorem W_bz : bNil [] env P = P env := propext ⟨fun h => h.2, fun h => ⟨rfl, h⟩⟩
end
end DL
namespace DL
open PySem PySem.Spec L2
theorem lcW_inv {b : BD} {ft : TD} {fe : ED} {env0 : En} {Q : List D → Prop} {items : List D} (I : Nat → List D → Prop)
    (hs : ∀ i d acc (Y : D → Prop) (N : Prop), items[i]? = some d → I i acc → (∀ e, I (i + 1) (acc ++ [e]) → Y e) → (I (i + 1) acc → N) → b d env0 (fun env1 => ft env1 (fun t => if t = true then frz fe env1 (fun r => ∃ e, r = .val e ∧ Y e) (fun _ => False) else N) (fun _ => False)))
    (hd : ∀ acc, I items.length acc → Q acc) : ∀ acc, I 0 acc → lcW b ft fe env0 Q items acc := by
  have key : ∀ (n i : Nat) acc, items.length - i = n → i ≤ items.length → I i acc → lcW b ft fe env0 Q (items.drop i) acc := by
    intro n
    induction n with
    | zero =>
      intro i acc h hi hI
      have e : i = items.length := by omega
      subst e
      rw [List.drop_length]
      exact hd _ hI
    | succ n ih =>
      intro i acc h hi hI
      have hlt : i < items.length := by omega
      rw [List.drop_eq_getElem_cons hlt]
      exact hs i _ acc (fun e => lcW b ft fe env0 Q (items.drop (i + 1)) (acc ++ [e])) (lcW b ft fe env0 Q (items.drop (i + 1)) acc) (List.getElem?_eq_getElem hlt) hI (fun e h' => ih (i + 1) _ (by omega) (by omega) h') (fun h' => ih (i + 1) _ (by omega) (by omega) h')
  intro acc h0
  exact key items.length 0 acc (by omega) (by omega) h0
section
variable {c : EK → Addr} {Q : RV → Prop} {E : Exc → Prop} {CB : Addr}
def SubOk (sn l : List Str) : Prop := NamesOk l ∧ (∀ s ∈ l, s ∈ sn) ∧ sortS l = l
def SetOk (sn : List Str) : Prop := NamesOk sn ∧ sortS sn = sn
def LsOk (sn : List Str) (ls : List (List Str)) : Prop := SetOk sn ∧ sn.length ≤ 12 ∧ ls.length ≤ 12 ∧ ∀ l ∈ ls, SubOk sn l
theorem SetOk.pw {sn : List Str} (h : SetOk sn) : sn.Pairwise fun a b => leS a b = true := by rw [← h.2]; exact sortS_pw sn
theorem sub_of {y sn : List Str} (h : y.Sublist sn) (ok : SetOk sn) : SubOk sn y := ⟨(subl_ok h ok.1).1, (subl_ok h ok.1).2.1, sortS_id (ok.pw.sublist h)⟩
theorem SubOk.set {sn l : List Str} (h : SubOk sn l) : SetOk l := ⟨h.1, h.2.2⟩
theorem SubOk.len {sn l : List Str} (h : SubOk sn l) : l.length ≤ sn.length := ok_nodup_le h.1 h.2.1
theorem LsOk.v {sn : List Str} {ls : List (List Str)} (h : LsOk sn ls) : LsV sn ls := ⟨names_v h.1.1.1, fun l m => names_v (h.2.2.2 l m).1.1⟩
end
theorem RowsD.nil : RowsD [] [] := ⟨rfl, by simp, fun _ m => nomatch m⟩
theorem RowsD.ins {ds : List D} {rl : List (List D)} {d : D} {r : List D} {k : Nat} (h : RowsD ds rl) (hd : seqD d = some r) (hr : FlatL r) (l : ds.length < 900) : RowsD (ds.take k ++ [d] ++ ds.drop k) (rl.take k ++ [r] ++ rl.drop k) := by
  refine ⟨?_, ?_, fun x m => ?_⟩
  · simp only [List.map_append, List.map_cons, List.map_nil, List.map_take, List.map_drop, h.1, hd]
  · simp only [List.length_append, List.length_take, List.length_drop, List.length_cons, List.length_nil]
    omega
  · rcases List.mem_append.mp m with m | m
    · rcases List.mem_append.mp m with m | m
      · exact h.2.2 x (List.mem_of_mem_take m)
      · rw [List.mem_singleton.mp m]
        exact hr
    · exact h.2.2 x (List.mem_of_mem_drop m)
theorem rows_lists {ls : List (List Str)} {sn : List Str} (h : ∀ l ∈ ls, SubOk sn l) (hl : ls.length ≤ 900) (hn : sn.length ≤ 900) : RowsD (ls.map fun l => .tup (l.map D.str)) (ls.map fun l => l.map D.str) := by
  refine ⟨by rw [List.map_map, List.map_map]; rfl, by rw [List.length_map]; exact hl, fun x m => ?_⟩
  obtain ⟨l, ml, rfl⟩ := List.mem_map.mp m
  exact strs_flatL (h l ml).1.1 (Nat.le_trans (h l ml).len hn)
end DL
namespace DL
open PySem PySem.Spec PyProof.Rows
open L2 hiding St
section
variable {prog : Program} {w : World} {A : Around} {E : Value → Shared → Prop} {s : Shared}
end
section
variable {X : Cx}
end
section
variable {X : Cx} {g : G} {W : WX} {ca : Nat} {fa : ED} {e : Expr} {env : En} {Q : RV → Prop} {E : Exc → Prop} {ds : List D}
def trK (Q : RV → Prop) : RV → Prop := fun r => ∃ ds, r = .val (.tup ds) ∧ Q (.val (.tup ds.reverse))
def eTRev (fa : ED) : ED := fun env Q E => frz fa env (trK Q) E
theorem W_trev : eTRev fa env Q E = frz fa env (trK Q) E := rfl
theorem W_trK : trK Q (.val (.tup ds)) = Q (.val (.tup ds.reverse)) := propext ⟨fun ⟨_, h, q⟩ => by cases h; exact q, fun q => ⟨_, rfl, q⟩⟩
end
end DL
namespace DL
open PySem PySem.Spec PyProof.Rows
open L2 hiding St
section
variable {X : Cx} {g : G} {W : WX} {T ca cb cc : Nat} {F H : Hp} {env : En} {σ : L2.St} {tg : Expr} {fa : AD}
end
end DL
namespace DL
open PySem PySem.Spec PyProof.Rows
open L2 hiding St
section
variable {X : Cx} {g : G} {W : WX} {c h p : Nat} {sr : SD} {rest : List Stmt}
end
def bareE (ks : List (Nat × Addr)) (env : En) : En := ks.foldr (fun k e => e.set k.1 (some (.val (.cls k.2)))) env
section
variable {F F' : Hp} {b : Addr} {ob : HO} {env : En} {K : PySem.W.Frag}
end
section
variable {X : Cx} {g : G} {W : WX} {c1 c2 : Nat} {sp sr : SD} {ss : List Stmt}
theorem Cy.to {X : Cx} {g g' : G} {W : WX} (cy : Cy X g W) (h : g'.K = g.K) : Cy X g' W := ⟨cy.k.trans h.symm, cy.tk, cy.un, cy.po⟩
end
theorem W_bare0 {env : En} : bareE [] env = env := rfl
theorem W_bare1 {env : En} {k : Nat × Addr} {ks : List (Nat × Addr)} : bareE (k :: ks) env = (bareE ks env).set k.1 (some (.val (.cls k.2))) := rfl
theorem len3 {as : List Addr} (h : as.length = 3) : ∃ a b c, as = [a, b, c] := by
  match as, h with
  | [a, b, c], _ => exact ⟨a, b, c, rfl⟩
end DL
namespace DL
open PySem PySem.Spec PyProof.Rows
open L2 hiding St
section
variable {X : Cx} {g : G} {W : WX} {ca cb k n : Nat} {f C : Addr} {fd : FuncData} {ps ks : List Str} {fn : FD} {fa fb : ED} {fs : AD} {m : Str} {o : Expr} {apos pos : Pos} {kws : List Keyword} {env : En} {Q : RV → Prop} {E : Exc → Prop} {ns : List Str} {xs : List D}
def eMethK (C : Addr) (n : Nat) (pm : {α : Type} → List α → List α) (m : Str) (fn : FD) (fo : ED) (fa : AD) : ED := fun env Q E => frz fo env (fun r => ∃ ns xs, r = .val (.obj C ns xs) ∧ m ∉ ns ∧ fa env (fun rs => rs.length = n ∧ (pm rs).length = n ∧ (∀ r ∈ rs, argOk r) ∧ app fn (r :: pm rs) Q E) E) E
def noFld (m : Str) (ns : List Str) : Prop := decide (m ∈ ns) = false
theorem noFld_eq {m : Str} {ns : List Str} : (m ∉ ns) = noFld m ns := propext ⟨fun h => decide_eq_false h, fun h => of_decide_eq_false h⟩
def mtK (C : Addr) (n : Nat) (m : Str) (fn : FD) (fa : AD) (env : En) (Q : RV → Prop) (E : Exc → Prop) : RV → Prop := fun r => ∃ ns xs, r = .val (.obj C ns xs) ∧ m ∉ ns ∧ fa env (fun rs => rs.length = n ∧ (∀ r ∈ rs, argOk r) ∧ app fn (r :: rs) Q E) E
theorem W_meth : eMeth C n m fn fa fs env Q E = frz fa env (mtK C n m fn fs env Q E) E := rfl
theorem W_mtK : mtK C n m fn fs env Q E (.val (.obj C ns xs)) = (noFld m ns ∧ fs env (fun rs => rs.length = n ∧ (∀ r ∈ rs, argOk r) ∧ app fn (.val (.obj C ns xs) :: rs) Q E) E) := propext ⟨fun ⟨_, _, h, h2, q⟩ => by cases h; exact ⟨noFld_eq ▸ h2, q⟩, fun ⟨h2, q⟩ => ⟨_, _, rfl, noFld_eq ▸ h2, q⟩⟩
def mt0K (C : Addr) (m : Str) (fn : FD) (Q : RV → Prop) (E : Exc → Prop) : RV → Prop := fun r => ∃ ns xs, r = .val (.obj C ns xs) ∧ m ∉ ns ∧ app fn [r] Q E
theorem W_meth0 : eMeth0 C m fn fa env Q E = frz fa env (mt0K C m fn Q E) E := rfl
theorem W_mt0K : mt0K C m fn Q E (.val (.obj C ns xs)) = (noFld m ns ∧ app fn [.val (.obj C ns xs)] Q E) := propext ⟨fun ⟨_, _, h, h2, q⟩ => by cases h; exact ⟨noFld_eq ▸ h2, q⟩, fun ⟨h2, q⟩ => ⟨_, _, rfl, noFld_eq ▸ h2, q⟩⟩
def mtkK (C : Addr) (n : Nat) (pm : {α : Type} → List α → List α) (m : Str) (fn : FD) (fa : AD) (env : En) (Q : RV → Prop) (E : Exc → Prop) : RV → Prop := fun r => ∃ ns xs, r = .val (.obj C ns xs) ∧ m ∉ ns ∧ fa env (fun rs => rs.length = n ∧ (pm rs).length = n ∧ (∀ r ∈ rs, argOk r) ∧ app fn (r :: pm rs) Q E) E
theorem W_methK {pm : {α : Type} → List α → List α} : eMethK C n pm m fn fa fs env Q E = frz fa env (mtkK C n pm m fn fs env Q E) E := rfl
theorem W_mtkK {pm : {α : Type} → List α → List α} : mtkK C n pm m fn fs env Q E (.val (.obj C ns xs)) = (noFld m ns ∧ fs env (fun rs => rs.length = n ∧ (pm rs).length = n ∧ (∀ r ∈ rs, argOk r) ∧ app fn (.val (.obj C ns xs) :: pm rs) Q E) E) := propext ⟨fun ⟨_, _, h, h2, q⟩ => by cases h; exact ⟨noFld_eq ▸ h2, q⟩, fun ⟨h2, q⟩ => ⟨_, _, rfl, noFld_eq ▸ h2, q⟩⟩
end
end DL
namespace DL
open PySem PySem.Spec L2
def numDue (lo hi : Int) (d : D) : Option Er := match d with
  | .int i => if lo ≤ i ∧ i ≤ hi then none else some ⟨.badNumber, [.int i]⟩
  | d => some ⟨.badNumber, [d]⟩
theorem numDue_int {lo hi i : Int} : numDue lo hi (.int i) = if lo ≤ i ∧ i ≤ hi then none else some ⟨.badNumber, [.int i]⟩ := rfl
def wholeDue (d : D) : Option Er := match d with
  | .int _ => none
  | d => some ⟨.badNumber, [d]⟩
section
variable {c : EK → Addr} {Q : RV → Prop} {E : Exc → Prop} {CB : Addr}
def cwholeF (c : EK → Addr) : FD := fun rs Q E => ∃ d, rs = [.val d] ∧ FlatD d ∧ toldK c (wholeDue d) (Q (.val .non)) E
theorem mono_cwholeF : MonoF (cwholeF c) := fun rs Q Q' E E' hq he ⟨d, h1, h2, h3⟩ => ⟨d, h1, h2, toldK_mono (hq _) he h3⟩
theorem cwhole_of {d : D} (h1 : FlatD d) (h : toldK c (wholeDue d) (Q (.val .non)) E) : app (cwholeF c) [.val d] Q E := ⟨d, rfl, h1, h⟩
def cnumF (c : EK → Addr) : FD := fun rs Q E => ∃ d, ∃ lo hi : Int, rs = [.val d, .val (.int lo), .val (.int hi)] ∧ FlatD d ∧ toldK c (numDue lo hi d) (Q (.val .non)) E
theorem mono_cnumF : MonoF (cnumF c) := fun rs Q Q' E E' hq he ⟨d, lo, hi, h1, h2, h3⟩ => ⟨d, lo, hi, h1, h2, toldK_mono (hq _) he h3⟩
theorem cnum_of {d : D} {lo hi : Int} (h1 : FlatD d) (h : toldK c (numDue lo hi d) (Q (.val .non)) E) : app (cnumF c) [.val d, .val (.int lo), .val (.int hi)] Q E := ⟨d, lo, hi, rfl, h1, h⟩
end
end DL
namespace DL
open PySem PySem.Spec L2
section
variable {Q : RV → Prop} {E : Exc → Prop} {CB : Addr}
end
theorem numDue_some {lo hi : Int} {d : D} {e : Er} (h : numDue lo hi d = some e) : e = ⟨.badNumber, [d]⟩ := by
  unfold numDue at h
  split at h
  · split at h
    · cases h
    · cases h
      rfl
  · cases h
    rfl
end DL
namespace DL
open PySem PySem.Spec L2
def eChain (q q' : Q2) (fa fb fc : ED) : ED := fun env Q E => frz fa env (fun x => frz fb env (fun y => q x y (fun z => ∃ k, z = .val (.bl k) ∧ (if k = true then frz fc env (fun w => q' y w Q) E else Q (.val (.bl false))))) E) E
def chK (P : Bool → Prop) : RV → Prop := fun z => ∃ k, z = .val (.bl k) ∧ P k
theorem W_chK {P : Bool → Prop} {k : Bool} : chK P (.val (.bl k)) = P k := propext ⟨fun ⟨_, h, q⟩ => by cases h; exact q, fun q => ⟨_, rfl, q⟩⟩
section
variable {X : Cx} {g : G} {W : WX} {ca cb cc : Nat} {fa fb fc : ED} {env : En} {Q : RV → Prop} {E : Exc → Prop}
theorem W_chain {q q' : Q2} : eChain q q' fa fb fc env Q E = frz fa env (fun x => frz fb env (fun y => q x y (chK fun k => if k = true then frz fc env (fun w => q' y w Q) E else Q (.val (.bl false)))) E) E := rfl
end
section
variable {Q : RV → Prop} {E : Exc → Prop}
end
end DL
namespace DL
open PySem PySem.Spec PyProof.Rows
open L2 hiding St
def ArgO (K : PySem.W.Frag) (st : Addr) (F : Hp) (a : Addr) : List RV → List V → Prop
  | [], vs => vs = []
  | r :: rs, vs => ∃ v w, vs = v :: w ∧ (match r with | .val d => Rep K F d v | .sto => v = .ref st | .own _ => v = .ref a | _ => False) ∧ ArgO K st F a rs w
theorem ArgO.length {K : PySem.W.Frag} {st : Addr} {F : Hp} {a : Addr} : ∀ {rs : List RV} {vs : List V}, ArgO K st F a rs vs → vs.length = rs.length
  | [], _, h => by rw [show _ = _ from h]; rfl
  | r :: rs, _, h => by
    obtain ⟨v, w, rfl, _, h2⟩ := h
    simp [ArgO.length h2]
def slotO : RV → Option SV
  | .val d => some (.val d)
  | .own xs => some (.own xs)
  | .sto => some .sto
  | _ => none
def startO (n : Nat) (rs : List RV) : En := rs.map slotO ++ List.replicate (n - rs.length) none
abbrev TDe := En → (Bool → En → Prop) → Prop
def tDTe (g : G) (f : TDe) : TT := fun σ H Q => ∃ T F env, Ok g T F env σ H ∧ f env (fun b env' => ∀ F' H', Ex F F' → Ok g T F' env' σ H' → Q b H')
structure DTe (X : Cx) (g : G) (e : Expr) (f : TDe) : Prop where
  pt : PT X e (tDTe g f)
  mono : ∀ env (Q Q' : Bool → En → Prop), (∀ b e, Q b e → Q' b e) → f env Q → f env Q'
section
variable {X : Cx} {g : G} {W : WX} {T T' ca cb cc : Nat} {F H F1 H1 Hs Fs : Hp} {env : En} {σ : L2.St} {fa : AD} {ta : TD} {te tf : TDe} {sa sb : SD}
def tKeep (ta : TD) : TDe := fun env Q => ta env (fun b => Q b env) (fun _ => False)
def tOrE (ta tb : TDe) : TDe := fun env Q => ta env (fun b env' => if b = true then Q true env' else tb env' Q)
def tAndE (ta tb : TDe) : TDe := fun env Q => ta env (fun b env' => if b = true then tb env' Q else Q false env')
def tNotE (ta : TDe) : TDe := fun env Q => ta env (fun b env' => Q (!b) env')
structure DWe (X : Cx) (g : G) (e : Expr) (f : TDe) : Prop where
  pw : PW X e (tDTe g f)
  mono : ∀ env (Q Q' : Bool → En → Prop), (∀ b e, Q b e → Q' b e) → f env Q → f env Q'
theorem DWe.dt {e : Expr} (h : DWe X g e te) : DTe X g e te := ⟨h.pw.pt, h.mono⟩
def sIfE (te : TDe) (sa sb : SD) : SD := fun D env => te env (fun b env' => if b = true then sa D env' else sb D env')
end
section
variable {env : En} {Q : Bool → En → Prop} {ta : TD} {te tf : TDe} {DD : DEn} {sa sb : SD} {i n : Nat} {fn : FD} {fa : AD}
theorem W_startO {rs : List RV} : startO n rs = rs.map slotO ++ List.replicate (n - rs.length) none := rfl
theorem W_slotO1 {d : D} : slotO (.val d) = some (.val d) := rfl
theorem W_slotO2 : slotO .sto = some .sto := rfl
theorem W_slotO3 {xs : List D} : slotO (.own xs) = some (.own xs) := rfl
theorem W_tKeep : tKeep ta env Q = ta env (fun b => Q b env) (fun _ => False) := rfl
theorem W_tOrE : tOrE te tf env Q = te env (fun b env' => if b = true then Q true env' else tf env' Q) := rfl
theorem W_tAndE : tAndE te tf env Q = te env (fun b env' => if b = true then tf env' Q else Q false env') := rfl
theorem W_tNotE : tNotE te env Q = te env (fun b env' => Q (!b) env') := rfl
theorem W_ifE : sIfE te sa sb DD env = te env (fun b e => if b = true then sa DD e else sb DD e) := rfl
end
def anyK (Q : RV → Prop) : RV → Prop := fun r => (∃ i : Int, r = .val (.int i)) ∧ ∀ z : Int, Q (.val (.int z))
def eAnyI (fa : ED) : ED := fun env Q E => fa env (anyK Q) E
section
variable {X : Cx} {g : G} {W : WX} {ca : Nat} {fa : ED} {env : En} {Q : RV → Prop} {E : Exc → Prop} {i : Int}
theorem W_anyI : eAnyI fa env Q E = fa env (anyK Q) E := rfl
theorem W_anyK : anyK Q (.val (.int i)) = ∀ z : Int, Q (.val (.int z)) := propext ⟨fun h => h.2, fun h => ⟨⟨i, rfl⟩, h⟩⟩
end
end DL
namespace DL
open PySem PySem.Spec L2
section
variable {Q : RV → Prop} {E : Exc → Prop} {CB : Addr}
end
section
variable {i n : Nat} {fn : FD} {fa : AD} {xs : List D} {env : En} {Q : Bool → En → Prop} {rs : List RV}
end
end DL
namespace SX
open PySem PySem.Spec PyProof.Rows L2
structure El (P : Program) (w : World) (κ : Type) [DecidableEq κ] where
  is : Heap → κ → Value → Prop
  hash : κ → Int
  scan : Bool
  keep : ∀ {h h' : Heap} {k : κ} {v : Value}, is h k v → (∀ c o, h.get? c = some o → h'.get? c = some o) → is h' k v
  same : ∀ {h h' : Heap} {k : κ} {v : Value} {a : Addr} {o : Obj} {es : Array (Int × Value)} {ep : Nat} {t : SetTable}, is h k v → h.get? a = some o → o.data = .set es ep t → Heap.SameBut a h h' → is h' k v
  inj : ∀ {h : Heap} {x y : κ} {v : Value}, is h x v → is h y v → x = y
  eqB : ∀ {A : Around} {E : Value → Shared → Prop} {s : Shared} {x y : κ} {u v : Value} {Q : Bool → Shared → Prop}, A.units < cLine → is s.heap x u → is s.heap y v → Q (decide (x = y)) s → wpAny (model P w) A (eqBool u v) Q E s
  hashB : ∀ {A : Around} {E : Value → Shared → Prop} {s : Shared} {k : κ} {v : Value} {Q : Bool → Shared → Prop}, is s.heap k v → (∀ b, Q b s) → wpAny (model P w) A (hashByValue 8 v) Q E s
  pyH : ∀ {A : Around} {E : Value → Shared → Prop} {s : Shared} {k : κ} {v : Value} {Q : Int → Shared → Prop}, A.units < cLine → is s.heap k v → (∀ n, Q (hash k) { s with toks := s.toks + n }) → wpAny (model P w) A (pyHash v) Q E s
  sc : ∀ {h : Heap} {k : κ} {v : Value}, is h k v → v.scannable = scan
  scanE : scan = true → ∀ {A : Around} {E : Value → Shared → Prop} {s : Shared} {a : Addr} {o : Obj} {L : List (κ × Value)} {es : Array (Int × Value)} {ep : Nat} {t : SetTable} {k : κ} {v : Value} {Q : ScanMet → Shared → Prop},
    s.heap.get? a = some o → o.data = .set es ep t → t.fits es.size = true → es.toList = L.map (fun p => (hash p.1, p.2)) → (∀ p ∈ L, is s.heap p.1 p.2) → is s.heap k v → (k ∈ L.map (·.1) → ∀ i, Q (.found i) s) → (k ∉ L.map (·.1) → Q .absent s) →
    wpAny (model P w) A (setScan a v (hash k) true es) Q E s
  refd : scan = false → ∀ {h : Heap} {k : κ} {v : Value}, is h k v → ∃ b, v = .ref b
  seen : scan = false → ∀ {A : Around} {E : Value → Shared → Prop} {s : Shared} {k : κ} {v : Value} {ys : List Value} {Q : Bool → Shared → Prop}, is s.heap k v → (∀ y ∈ ys, ∃ k', is s.heap k' y) → Q false s → wpAny (model P w) A (searchCouldBeSeen v ys) Q E s
variable {P : Program} {w : World} {κ : Type} [DecidableEq κ] {el : El P w κ}
def rowsG (el : El P w κ) (L : List (κ × Value)) : List (Int × Value) := L.map fun p => (el.hash p.1, p.2)
structure SetG (el : El P w κ) (h : Heap) (a : Addr) (L : List (κ × Value)) (es : Array (Int × Value)) (ep : Nat) (t : SetTable) : Prop where
  ob : ∃ o, h.get? a = some o ∧ o.ExactSet ∧ o.data = .set es ep t
  rows : es.toList = rowsG el L
  tab : TabOk t (L.map fun p => el.hash p.1)
  nd : (L.map (·.1)).Nodup
  els : ∀ p ∈ L, el.is h p.1 p.2
  led : w.params.followText "set-order" = true ∨ t.led = true
  room : L.length * 5 < t.mask * 3
  few : L.length < 64
section
variable {A : Around} {E : Value → Shared → Prop} {s : Shared} {a : Addr} {L : List (κ × Value)} {es : Array (Int × Value)} {ep : Nat} {t : SetTable}
theorem SetG.size {h : Heap} (R : SetG el h a L es ep t) : es.size = L.length := by
  rw [← Array.length_toList, R.rows]
  exact List.length_map _
theorem fits_by {n : Nat} (sz : t.place.size = n) (dm : t.dummies = #[]) (hl : n ≤ t.mask) : t.fits n = true := by
  have : t.fill = n := by unfold SetTable.fill; rw [dm, sz]; rfl
  unfold SetTable.fits
  rw [this, sz]
  simp [hl]
theorem SetG.tsz {h : Heap} (R : SetG el h a L es ep t) : t.place.size = L.length := by
  have := R.tab.sz
  rwa [List.length_map] at this
theorem SetG.fits {h : Heap} (R : SetG el h a L es ep t) : t.fits es.size = true := by
  rw [R.size]
  exact fits_by R.tsz R.tab.dm (by have := R.room; omega)
abbrev st0 (m : Nat) (h : Int) : SetTable.Probe := runAt m (SetTable.bits h % (m + 1)) (SetTable.bits h)
end
end SX
namespace SX
open PySem PySem.Spec PyProof.Rows L2
variable {P : Program} {w : World} {κ : Type} [DecidableEq κ] {el : El P w κ}
section
variable {A : Around} {E : Value → Shared → Prop} {s : Shared} {a : Addr} {L : List (κ × Value)} {es : Array (Int × Value)} {ep : Nat} {t : SetTable}
end
end SX
namespace SX
open PySem PySem.Spec PyProof.Rows L2
variable {P : Program} {w : World} {κ : Type} [DecidableEq κ] {el : El P w κ}
section
variable {A : Around} {E : Value → Shared → Prop} {s : Shared} {a : Addr} {L : List (κ × Value)} {es : Array (Int × Value)} {ep : Nat} {t : SetTable}
end
end SX
namespace SX
open PySem PySem.Spec PyProof.Rows L2
section
variable {P : Program} {w : World} {A : Around} {E : Value → Shared → Prop} {s : Shared}
end
end SX
namespace SX
open PySem PySem.Spec PyProof.Rows L2
variable {P : Program} {w : World} {κ : Type} [DecidableEq κ] {el : El P w κ}
structure GotG (ks : List (κ × Value)) (i : Nat) (L : List (κ × Value)) : Prop where
  sub : ∀ p ∈ L, p ∈ ks.take i
  all : ∀ p ∈ ks.take i, p.1 ∈ L.map (·.1)
  len : L.length ≤ i
theorem GotG.zero (ks : List (κ × Value)) : GotG ks 0 [] := ⟨(fun p h => nomatch h), (fun p h => (by simp at h)), Nat.le_refl _⟩
theorem take_more {α : Type} {l : List α} {i : Nat} {x : α} (h : l[i]? = some x) : l.take (i + 1) = l.take i ++ [x] := by
  rw [List.take_succ, h]
  rfl
theorem GotG.step {ks L L' : List (κ × Value)} {i : Nat} {x : κ × Value} (g : GotG ks i L) (h : ks[i]? = some x) (h1 : x.1 ∈ L.map (·.1) → L' = L) (h2 : x.1 ∉ L.map (·.1) → L'.Perm (x :: L)) : GotG ks (i + 1) L' := by
  by_cases c : x.1 ∈ L.map (·.1)
  · rw [h1 c]
    refine ⟨fun p hp => ?_, fun p hp => ?_, Nat.le_succ_of_le g.len⟩
    · rw [take_more h]
      exact List.mem_append_left _ (g.sub p hp)
    · rw [take_more h] at hp
      rcases List.mem_append.mp hp with z | z
      · exact g.all p z
      · rw [List.mem_singleton.mp z]
        exact c
  · have pm := h2 c
    refine ⟨fun p hp => ?_, fun p hp => ?_, ?_⟩
    · rw [take_more h]
      rcases List.mem_cons.mp (pm.mem_iff.mp hp) with e | z
      · rw [e]
        exact List.mem_append_right _ (List.mem_singleton.mpr rfl)
      · exact List.mem_append_left _ (g.sub p z)
    · rw [(pm.map (·.1)).mem_iff, List.map_cons]
      rw [take_more h] at hp
      rcases List.mem_append.mp hp with z | z
      · exact List.mem_cons_of_mem _ (g.all p z)
      · rw [List.mem_singleton.mp z]
        exact List.mem_cons_self
    · rw [pm.length_eq, List.length_cons]
      exact Nat.succ_le_succ g.len
section
variable {A : Around} {E : Value → Shared → Prop} {s : Shared}
set_option maxHeartbeats 8000000 in
set_option maxHeartbeats 8000000 in
end
end SX
namespace SX
open PySem PySem.Spec PyProof.Rows L2
variable {P : Program} {w : World} {κ : Type} [DecidableEq κ] {el : El P w κ}
section
variable {A : Around} {E : Value → Shared → Prop} {s : Shared} {a : Addr} {L : List (κ × Value)} {es : Array (Int × Value)} {ep : Nat} {t : SetTable} {pd : κ → PyData}
abbrev leP (pd : κ → PyData) (p q : κ × Value) : Bool := !W.dataLt (pd q.1) (pd p.1)
theorem leP_total (pd : κ → PyData) : W.TotalLe (leP pd) := W.sortLe_total (listOrd itemOrd) false fun p : κ × Value => W.keyToks (pd p.1)
end
end SX
namespace SX
open PySem PySem.Spec PyProof.Rows
open L2 hiding St
variable {P : Program} {w : World} {κ : Type} [DecidableEq κ] {el : El P w κ}
section
variable {X : Cx} {el : El X.prog X.w κ} {good : Hp → κ → V → Prop} {pins : List (Addr × Obj)} {σ : L2.St} {H : Hp} {s : Shared} {a : Addr} {L0 : List (κ × V)}
end
end SX
namespace SX
open PySem PySem.Spec PyProof.Rows
open L2 hiding St
open PpSet (compLoopS_any codeAny_compStart_set newSet_ok)
variable {κ : Type} [DecidableEq κ]
section
variable {P : Program} {w : World} {el : El P w κ} {A : Around} {E : Value → Shared → Prop} {s : Shared} {a : Addr} {L : List (κ × Value)} {es : Array (Int × Value)} {ep : Nat} {t : SetTable}
end
section
variable {X : Cx} {el : El X.prog X.w κ} {good : Hp → κ → V → Prop}
end
end SX
namespace SX
open PySem PySem.Spec PyProof.Rows
open L2 hiding St
open PpSet (compLoopS_any codeAny_compStart_set newSet_ok)
variable {κ : Type} [DecidableEq κ]
section
variable {X : Cx} {el : El X.prog X.w κ} {good : Hp → κ → V → Prop}
end
end SX
namespace DL
open PySem PySem.Spec L2 PyProof.Rows
section
variable {h h' : Heap}
mutual
theorem reads_up (k : ∀ b o, h.get? b = some o → h'.get? b = some o) : ∀ {v : Value} {d : PyData} {as : List Addr}, Reads h v d as → Reads h' v d as
  | _, _, _, .none => .none
  | _, _, _, .bool b => .bool b
  | _, _, _, .int i t => .int i t
  | _, _, _, .str x t => .str x t
  | _, _, _, .list h1 h2 h3 r => .list (k _ _ h1) h2 h3 (readsAll_up k r)
  | _, _, _, .tuple h1 h2 h3 r => .tuple (k _ _ h1) h2 h3 (readsAll_up k r)
  | _, _, _, .dict h1 h2 h3 r1 r2 => .dict (k _ _ h1) h2 h3 (readsAll_up k r1) (readsAll_up k r2)
theorem readsAll_up (k : ∀ b o, h.get? b = some o → h'.get? b = some o) : ∀ {vs : List Value} {ds : List PyData} {as : List Addr}, ReadsAll h vs ds as → ReadsAll h' vs ds as
  | _, _, _, .nil => .nil
  | _, _, _, .cons r t => .cons (reads_up k r) (readsAll_up k t)
end
end
def leD (a b : D) : Bool := !PySem.W.dataLt (pyD b) (pyD a)
def sortD (ds : List D) : List D := ds.mergeSort leD
theorem sortD_perm (ds : List D) : (sortD ds).Perm ds := List.mergeSort_perm ds leD
def SortOk (ds : List D) : Prop := (∀ d ∈ ds, okPy d = true ∧ (pyD d).depth ≤ 40) ∧ PySem.W.AllAlike (ds.map pyD) ∧ (2 ≤ ds.length → PySem.W.Sortable (ds.map pyD))
section
variable {prog : Program} {w : World} {A : Around} {E : Value → Shared → Prop} {s : Shared}
abbrev AsD (K : PySem.W.Frag) (F : Hp) (u : Value) (d : D) : Prop := ∃ y : V, RelV y u ∧ Rep K F d y
theorem each_of {K : PySem.W.Frag} {F : Hp} : ∀ {xs : List V} {us : List Value} {ds : List D}, Vals xs us → RepL K F ds xs → PySem.W.EachIs (AsD K F) us ds
  | _, _, [], v, r => by
    rw [repL_nil] at r
    subst r
    cases v
    exact .nil
  | _, _, d :: ds, v, r => by
    rw [repL_cons] at r
    obtain ⟨y, ys, rfl, h1, h2⟩ := r
    cases v with
    | cons r0 v => exact .cons ⟨y, r0, h1⟩ (each_of v h2)
theorem each_back {K : PySem.W.Frag} {F : Hp} : ∀ {us : List Value} {ds : List D}, PySem.W.EachIs (AsD K F) us ds → ∃ ys : List V, Vals ys us ∧ RepL K F ds ys
  | _, _, .nil => ⟨[], .nil, repL_nil.mpr rfl⟩
  | _, _, .cons ⟨y, r, p⟩ t => by
    obtain ⟨ys, h1, h2⟩ := each_back t
    exact ⟨y :: ys, .cons r h1, repL_cons.mpr ⟨y, ys, rfl, p, h2⟩⟩
theorem sortedDA {l : Addr} {vs : List Value} {ds : List D} {R : Value → D → Prop} {Q : Value → Shared → Prop} (hl : s.heap.IsList l vs.toArray ∨ s.heap.IsTuple l vs.toArray) (e : PySem.W.EachIs R vs ds) (hr : ∀ v d, R v d → d ∈ ds → ∃ as, Reads s.heap v (pyD d) as) (so : SortOk ds)
    (hu : A.units + 50 < cLine) (hL : vs.length ≤ sizeLine) (h : ∀ (h' : Heap) (p : Addr) (out : List Value) (n : Nat), PySem.W.EachIs R out (sortD ds) → (∀ b o, s.heap.get? b = some o → h'.get? b = some o) → s.heap.objs.size ≤ p → h'.get? p = some (seqObj "list" out.toArray n) → Q (.ref p) { s with heap := h' }) :
    wpAny (model prog w) A (call (.builtin "sorted") [.ref l]) Q E s := by
  refine Calls.call_function_entry kind_sorted plain_sorted entry_sorted (args_sorted1 _) ?_
  unfold Builtin.«sorted»
  refine wpAny_bind (m := checkCount "sorted" 1 1 _) (wpAny_pure ?_)
  have key : wpAny (model prog w) A.in1 (collect (.ref l)) (fun us s1 => us = vs ∧ s1 = { s with heap := (s.heap.push (seqObj "list" #[] 0)).update s.heap.objs.size (Obj.mapSeq (· ++ vs.toArray)) }) E s := by
    rcases hl with hl | hl
    · exact collect_list hl ⟨rfl, rfl⟩ hL
    · exact collect_tup hl ⟨rfl, rfl⟩ hL
  refine wpAny_bind (wpAny_mono key (fun us s1 hh => ?_) (fun _ _ z => z))
  obtain ⟨rfl, rfl⟩ := hh
  refine wpAny_bind (wpAny_newList ?_ hL)
  have hsz : ((s.heap.push (seqObj "list" #[] 0)).update s.heap.objs.size (Obj.mapSeq (· ++ us.toArray))).objs.size = s.heap.objs.size + 1 := by
    rw [Heap.size_update, size_push']
  have hoL := PySem.W.copyHeap_at s.heap us
  show wpAny _ _ _ _ _ { s with heap := PySem.W.copyHeap s.heap us }
  rw [hsz]
  have al : PySem.W.EachIs (fun v d => ∃ as, Reads (PySem.W.sortingHeap (PySem.W.copyHeap s.heap us) (s.heap.objs.size + 1) us) v d as) us (ds.map pyD) := by
    have e2 := PySem.W.each_mem e
    clear e key hoL hL h
    have go : ∀ {us' : List Value} {ds' : List D}, PySem.W.EachIs (fun a b => R a b ∧ b ∈ ds) us' ds' → PySem.W.EachIs (fun v d => ∃ as, Reads (PySem.W.sortingHeap (PySem.W.copyHeap s.heap us) (s.heap.objs.size + 1) us) v d as) us' (ds'.map pyD) := by
      intro us' ds' e
      induction e with
      | nil => exact .nil
      | cons h0 _ ih =>
        obtain ⟨as, r⟩ := hr _ _ h0.1 h0.2
        exact .cons ⟨as, reads_up (fun b o q => PySem.W.sorting_copy_old q) r⟩ ih
    exact go e2
  have ld : us.length = ds.length := e.length
  by_cases h2 : 2 ≤ ds.length
  · have S := PySem.W.SortsAt.data (prog := prog) (w := w) (A := A.in1.in1) (s := { s with heap := PySem.W.sortingHeap (PySem.W.copyHeap s.heap us) (s.heap.objs.size + 1) us }) al so.2.1 (so.2.2 h2) (fun d hd => by
      obtain ⟨d', m, rfl⟩ := List.mem_map.mp hd
      have := (so.1 d' m).2
      show A.units + 1 + 1 + _ < cLine
      omega)
    have er := PySem.W.sortVals_each (κ := PySem.W.dataKind (PySem.W.sortingHeap (PySem.W.copyHeap s.heap us) (s.heap.objs.size + 1) us) (ds.map pyD)) (rev := false) (ks := us) (k := fun d : D => PySem.W.keyToks (pyD d)) e (by
      have e2 := PySem.W.each_mem e
      refine PySem.W.EachIs.mono (fun v d ⟨q, m⟩ => ?_) e2
      obtain ⟨as, r⟩ := hr _ _ q m
      exact PySem.W.dataKind_some so.2.1 (List.mem_map.mpr ⟨d, m, rfl⟩) (reads_up (fun b o z => PySem.W.sorting_copy_old z) r))
    refine wpAny_bind (wpAny_holding (wpAny_call_entry slot_list_sort ⟨_, hoL, rfl⟩ entry_list_sort (PySem.W.list_sort_vals (s := { s with heap := PySem.W.copyHeap s.heap us }) hoL S hL ⟨_, rfl, ?_⟩) (args_list_sort _)))
    obtain ⟨n, hn⟩ := sortedAll_at s.heap us (PySem.W.sortVals (PySem.W.dataKind (PySem.W.sortingHeap (PySem.W.copyHeap s.heap us) (s.heap.objs.size + 1) us) (ds.map pyD)) false us us).toArray
    exact wpAny_pure ⟨_, rfl, h _ _ _ n er (fun b o q => sortedAll_old q) (Nat.le_succ _) hn⟩
  · refine wpAny_bind (wpAny_holding (wpAny_call_entry slot_list_sort ⟨_, hoL, rfl⟩ entry_list_sort (SrtO.list_sort_ord (s := { s with heap := PySem.W.copyHeap s.heap us }) (ltv := fun _ _ => false) ⟨(fun _ _ z => Bool.noConfusion z), (fun _ _ _ _ _ => rfl)⟩ hoL hL (fun z => absurd z (by omega)) fun out _ hb => ⟨_, rfl, ?_⟩) (args_list_sort _)))
    have eo : out = us := by
      have p := hb.perm
      match us, out, p, ld with
      | [], out, p, _ => exact p.eq_nil
      | [u], out, p, _ => exact List.perm_singleton.mp p
      | _ :: _ :: _, _, _, ld =>
        simp only [List.length_cons] at ld
        omega
    subst eo
    have es : sortD ds = ds := by
      match ds, h2 with
      | [], _ => exact List.mergeSort_nil
      | [d], _ => exact List.mergeSort_singleton d
      | _ :: _ :: _, h2 =>
        simp only [List.length_cons] at h2
        omega
    obtain ⟨n, hn⟩ := sortedAll_at s.heap out out.toArray
    exact wpAny_pure ⟨_, rfl, h _ _ out n (by rw [es]; exact e) (fun b o q => sortedAll_old q) (Nat.le_succ _) hn⟩
end
section
variable {X : Cx} {g : G} {W : WX} {ca : Nat} {fa : ED} {a : Expr} {pos p : Pos}
theorem dp_at {K : PySem.W.Frag} {F H : Hp} (e : Ex F H) {d : D} {y : V} (o : okPy d = true) (r : Rep K F d y) : Dp K H y (pyD d) := dp_of o (r.mono e)
def rSortedD (K : PySem.W.Frag) : List V → Hp → VK → Prop := fun vs H Q => ∃ (a : Addr) (xs : List V) (F : Hp) (ds : List D), vs = [V.ref a] ∧ (SqL K H a xs ∨ SqT K H a xs) ∧ RepL K F ds xs ∧ Ex F H ∧ SortOk ds ∧ ds.length ≤ 100000 ∧
  ∀ ys p, RepL K F (sortD ds) ys → H p = none → Q (.ref p) (upd H p (.lst ys))
theorem cr_sortedD (hu : X.A.units + 66 < cLine) : CallR X (.builtin "sorted") (rSortedD X.K) := by
  intro pins s σ H vs us Q I r h
  obtain ⟨a, xs, F, ds, rfl, hs, rx, ex, so, hl, q⟩ := h
  rw [Vals.ref1 r]
  obtain ⟨its, rv, hl2⟩ : ∃ its, Vals xs its ∧ (s.heap.IsList a its.toArray ∨ s.heap.IsTuple a its.toArray) := by
    rcases hs with hs | hs
    · obtain ⟨its, rv, hl, _⟩ := I.list hs
      exact ⟨its, rv, .inl hl.isList⟩
    · obtain ⟨its, rv, hl, _⟩ := I.tuple hs
      exact ⟨its, rv, .inr hl⟩
  have l1 := rv.length
  have l2 := rx.length
  refine sortedDA (R := AsD X.K F) hl2 (each_of rv rx) (fun v d ⟨y, r0, p⟩ m => (dp_at ex (so.1 d m).1 p).reads I _ _ _ r0) so (by omega) (by rw [← l1, ← l2]; exact lim_line hl) fun h' p out n eo hk hp hn => ?_
  obtain ⟨ys, v1, r1⟩ := each_back eo
  have ly := r1.length
  rw [(sortD_perm ds).length_eq] at ly
  exact ⟨.ref p, upd H p (.lst ys), I.laid (t' := s.toks) hk hp ⟨by rw [← ly]; exact lim_line hl, out, n, v1, hn⟩, rfl, q ys p r1 (I.hok.fresh hp)⟩
def sortedDQ : QC := fun rs Q => match rs with
  | [x] => ∃ ds, asSeq x = some ds ∧ SortOk ds ∧ ds.length ≤ LIM ∧ Q (.own (sortD ds))
  | _ => False
theorem mono_sortedDQ : MonoC sortedDQ := fun xs Q Q' hq q => by
  unfold sortedDQ at q ⊢
  split
  · obtain ⟨ds, h1, h2, h3, q⟩ := q
    exact ⟨ds, h1, h2, h3, hq _ q⟩
  · split at q
    · simp_all
    · exact q
theorem d_sortedD : CallD g (rSortedD g.K) sortedDQ := by
  intro T F env σ H Hs xs vs Q Qv ok rs q k
  unfold sortedDQ at q
  split at q
  · obtain ⟨v, rfl, r⟩ := rs1 (rs := []) rs
    obtain ⟨ds, h1, h2, h3, q⟩ := q
    obtain ⟨a, us, rfl, h4, h5⟩ := asSeq_rep ok h1 r
    exact ⟨a, us, F, ds, rfl, h4, h5, ok.fh, h2, h3, fun ys p ry hp => k _ F _ _ q (Grow.new ok.fh ok.sto.free hp) (ok.new hp) (RepR.made ok hp ry)⟩
  · exact q.elim
theorem de_sortedD (cy : Cy X g W) (hg : Gl X "sorted") (hm : X.mg "sorted" = none) (ha : DE X g W ca a fa) (h1 : starEach [a] X.env = (false, eval a X.env) :: starEach [] X.env := by rfl) (h3 : (backTo pos (starEach [] X.env)).any (·.1) = false := by rfl) : DE X g W (ca + 0) (.Call (.Name "sorted" p) [a] [] pos) (eCall sortedDQ (aCons fa aNil)) :=
  de_callB (by have h := cr_sortedD (X := X) cy.un; rw [cy.k] at h; exact h) d_sortedD mono_sortedDQ hg hm (by decide +kernel) (da_cons ha da_nil h1) (by decide) (by decide) h1 h3
def sortDK (ds : List D) (Q : RV → Prop) (_u : Fx Q := ()) : Prop := SortOk ds ∧ ds.length ≤ LIM ∧ Q (.own (sortD ds))
theorem W_sortedD1 {ds : List D} {Q : RV → Prop} : sortedDQ [.val (.lst ds)] Q = sortDK ds Q := propext ⟨fun ⟨_, h1, q⟩ => by cases h1; exact q, fun q => ⟨_, rfl, q⟩⟩
theorem W_sortedD2 {ds : List D} {Q : RV → Prop} : sortedDQ [.val (.tup ds)] Q = sortDK ds Q := propext ⟨fun ⟨_, h1, q⟩ => by cases h1; exact q, fun q => ⟨_, rfl, q⟩⟩
theorem W_sortedD3 {ds : List D} {Q : RV → Prop} : sortedDQ [.bor ds] Q = sortDK ds Q := propext ⟨fun ⟨_, h1, q⟩ => by cases h1; exact q, fun q => ⟨_, rfl, q⟩⟩
theorem sortDK_of {ds : List D} {Q : RV → Prop} (h1 : SortOk ds) (h2 : ds.length ≤ LIM) (h : Q (.own (sortD ds))) : sortDK ds Q := ⟨h1, h2, h⟩
end
end DL
namespace DL
open PySem PySem.Spec L2 PyProof.Rows
abbrev tupS (l : List Str) : D := .tup (l.map D.str)
theorem leD_str {a b : Str} : leD (.str a) (.str b) = leS a b := by
  unfold leD
  rw [show pyD (.str a) = .str a from rfl, show pyD (.str b) = .str b from rfl, PySem.W.dataLt_str]
  unfold leS
  rw [ltCps_eq]
def toksL : List Str → List (Int ⊕ List Nat)
  | [] => [.inl 0]
  | s :: l => .inl 1 :: .inr s.cps.toList :: toksL l
theorem toks_tup : ∀ l : List Str, PySem.W.keyToks (pyD (tupS l)) = toksL l
  | [] => rfl
  | s :: l => by
    have ih := toks_tup l
    show PySem.W.keyToksAll (pyDs (D.str s :: l.map D.str)) = _
    have ih2 : PySem.W.keyToksAll (pyDs (l.map D.str)) = toksL l := ih
    rw [show pyDs (D.str s :: l.map D.str) = .str s :: pyDs (l.map D.str) from rfl, PySem.W.toks_all_cons, ih2]
    rfl
theorem toksL_inj : ∀ {l m : List Str}, toksL l = toksL m → l = m
  | [], [], _ => rfl
  | [], _ :: _, h => by simp [toksL] at h
  | _ :: _, [], h => by simp [toksL] at h
  | s :: l, t :: m, h => by
    simp only [toksL, List.cons.injEq, Sum.inr.injEq, true_and] at h
    rw [str_ext h.1, toksL_inj h.2]
theorem leD_anti {l m : List Str} (h1 : leD (tupS l) (tupS m) = true) (h2 : leD (tupS m) (tupS l) = true) : l = m := by
  unfold leD PySem.W.dataLt at h1 h2
  rw [toks_tup, toks_tup] at h1 h2
  have a : lexLt itemOrd (toksL m) (toksL l) = false := by simpa using h1
  have b : lexLt itemOrd (toksL l) (toksL m) = false := by simpa using h2
  exact toksL_inj (lex_total (O := itemOrd) _ _ b a)
def leL (a b : List Str) : Bool := leD (tupS a) (tupS b)
theorem depth_strs : ∀ l : List Str, PyData.depthAll (pyDs (l.map D.str)) = 0
  | [] => rfl
  | s :: l => by
    show max (PyData.depth (pyD (.str s))) (PyData.depthAll (pyDs (l.map D.str))) = 0
    rw [depth_strs l]
    rfl
theorem alike_toks : ∀ l m : List Str, PySem.W.alikeAll (pyDs (l.map D.str)) (pyDs (m.map D.str)) = true
  | [], _ => by rw [show pyDs (([] : List Str).map D.str) = [] from rfl, PySem.W.alikeAll]
  | _ :: _, [] => rfl
  | s :: l, t :: m => by
    show PySem.W.alikeAll (.str s :: pyDs (l.map D.str)) (.str t :: pyDs (m.map D.str)) = true
    rw [PySem.W.alikeAll, alike_toks l m]
    rfl
def once {α : Type} [DecidableEq α] : List α → List α
  | [] => []
  | x :: l => if x ∈ l then once l else x :: once l
end DL
namespace DL
open PySem PySem.Spec PyProof.Rows
open L2
structure SK (κ : Type) [DecidableEq κ] where
  el : ∀ (P : Program) (w : World), SX.El P w κ
  toD : κ → D
  inj : ∀ {a b : κ}, toD a = toD b → a = b
  ok : ∀ k, okPy (toD k) = true
  dep : ∀ k, (pyD (toD k)).depth ≤ 40
  alike : ∀ k k', PySem.W.alike (pyD (toD k)) (pyD (toD k')) = true
  lift : ∀ {P : Program} {w : World} {h : Heap} {k : κ} {u : Value} {as : List Addr}, Reads h u (pyD (toD k)) as → (el P w).is h k u
  rd : ∀ {P : Program} {w : World} {h : Heap} {k : κ} {u : Value}, (el P w).is h k u → ∃ as, Reads h u (pyD (toD k)) as
  so : κ → Prop
  sort : ∀ {l : List κ}, (∀ k ∈ l, so k) → PySem.W.Sortable (l.map fun k => pyD (toD k))
  anti : ∀ {a b : κ}, leD (toD a) (toD b) = true → leD (toD b) (toD a) = true → a = b
section
variable {κ : Type} [DecidableEq κ] (S : SK κ)
def leK (a b : κ) : Bool := leD (S.toD a) (S.toD b)
def onK (l : List κ) : List κ := (once l).mergeSort (leK S)
def gdK (K : PySem.W.Frag) : Hp → κ → V → Prop := fun H k y => Dp K H y (pyD (S.toD k))
end
section
variable {κ : Type} [DecidableEq κ] {S : SK κ} {K : PySem.W.Frag}
abbrev RepK (S : SK κ) (K : PySem.W.Frag) (F : Hp) (L : List (κ × V)) : Prop := ∀ p ∈ L, Rep K F (S.toD p.1) p.2
theorem RepK.good {F H : Hp} {L : List (κ × V)} (r : RepK S K F L) (e : Ex F H) : ∀ p ∈ L, gdK S K H p.1 p.2 := fun p hp => dp_at e (S.ok p.1) (r p hp)
end
section
variable {κ : Type} [DecidableEq κ] {X : Cx} {g : G} {W : WX} {ca cb cc : Nat} {fa : ED} {a : Expr} {pos p p2 pos2 : Pos}
def setOfQ (S : SK κ) (R : List κ → (RV → Prop) → Prop) : QC := fun rs Q => match rs with
  | [x] => ∃ ks, asSeq x = some (ks.map S.toD) ∧ ks.length < 64 ∧ R ks Q
  | _ => False
def sortKR (S : SK κ) (ks : List κ) (Q : RV → Prop) (_u : Fx Q := ()) : Prop := (∀ k ∈ ks, S.so k) ∧ Q (.own ((onK S ks).map S.toD))
end
end DL
namespace DL
open PySem PySem.Spec PyProof.Rows
open L2 hiding St
abbrev St := L2.St
section
variable {κ : Type} [DecidableEq κ] {X : Cx} {g : G} {W : WX} {ca cb cc : Nat} {fa : ED} {a : Expr} {pos p p2 pos2 : Pos}
def scW (S : SK κ) (b : BD) (ft : TD) (fe : ED) (env0 : En) (Q : List κ → Prop) : List D → List κ → Prop
  | [], acc => Q acc
  | d :: ds, acc => b d env0 (fun env1 => ft env1 (fun t => if t = true then frz fe env1 (fun r => ∃ k, r = .val (S.toD k) ∧ (once acc).length < 63 ∧ scW S b ft fe env0 Q ds (acc ++ [k])) (fun _ => False) else scW S b ft fe env0 Q ds acc) (fun _ => False))
def eSc (S : SK κ) (fi : ID) (b : BD) (ft : TD) (fe : ED) (vs : List Nat) : ED := fun env Q E => fi env (fun items => items.length ≤ NN ∧ scW S b ft fe (wipeE env vs) (fun acc => sortKR S acc Q) items []) E
end
end DL
namespace DL
open PySem PySem.Spec L2
section
variable {X : Cx} {g : G} {W : WX} {ca cb : Nat} {fa fb : ED} {e e2 : Expr} {p pos pos' : Pos} {x f f2 : Str} {C : Addr} {A : DEn} {env : En} {d d2 : D} {P : D → D → Prop}
def sRaise2 (C : Addr) (f f2 : Str) (fa fb : ED) : SD := fun A env => frz fa env (fun r => match r with | .val d => frz fb env (fun r2 => match r2 with | .val d2 => A.ex env ⟨C, [f2, f], [d2, d]⟩ | _ => False) (A.ex env) | _ => False) (A.ex env)
def raiseK2 (fb : ED) (env : En) (P : D → D → Prop) (E : Exc → Prop) : RV → Prop := fun r => match r with | .val d => frz fb env (raiseK (P d)) E | _ => False
theorem W_raise2 : sRaise2 C f f2 fa fb A env = frz fa env (raiseK2 fb env (fun d d2 => A.ex env ⟨C, [f2, f], [d2, d]⟩) (A.ex env)) (A.ex env) := rfl
theorem W_raiseK2 {E : Exc → Prop} : raiseK2 fb env P E (.val d) = frz fb env (raiseK (P d)) E := rfl
end
section
variable {κ : Type} [DecidableEq κ] {env : En} {Q : RV → Prop} {E : Exc → Prop}
def setOfK (S : SK κ) (R : List κ → (RV → Prop) → Prop) (ds : List D) (Q : RV → Prop) (_u : Fx Q := ()) : Prop := ∃ ks, ds = ks.map S.toD ∧ ks.length < 64 ∧ R ks Q
theorem W_setOf1 {S : SK κ} {R : List κ → (RV → Prop) → Prop} {ds : List D} : setOfQ S R [.val (.lst ds)] Q = setOfK S R ds Q := propext ⟨fun ⟨ks, h1, h2, q⟩ => ⟨ks, by simpa [asSeq] using h1, h2, q⟩, fun ⟨ks, h1, h2, q⟩ => ⟨ks, by rw [h1]; rfl, h2, q⟩⟩
theorem W_setOf2 {S : SK κ} {R : List κ → (RV → Prop) → Prop} {ds : List D} : setOfQ S R [.val (.tup ds)] Q = setOfK S R ds Q := propext ⟨fun ⟨ks, h1, h2, q⟩ => ⟨ks, by simpa [asSeq] using h1, h2, q⟩, fun ⟨ks, h1, h2, q⟩ => ⟨ks, by rw [h1]; rfl, h2, q⟩⟩
theorem W_setOf3 {S : SK κ} {R : List κ → (RV → Prop) → Prop} {ds : List D} : setOfQ S R [.bor ds] Q = setOfK S R ds Q := propext ⟨fun ⟨ks, h1, h2, q⟩ => ⟨ks, by simpa [asSeq] using h1, h2, q⟩, fun ⟨ks, h1, h2, q⟩ => ⟨ks, by rw [h1]; rfl, h2, q⟩⟩
def scG (S : SK κ) (bd : BD) (ft : TD) (fe : ED) (env : En) (P : List κ → Prop) (items : List D) (acc : List κ) (_u : Fx (bd, ft, fe, P) := ()) : Prop := scW S bd ft fe env P items acc
theorem W_sc {S : SK κ} {fi : ID} {bd : BD} {ft : TD} {fe : ED} {vs : List Nat} : eSc S fi bd ft fe vs env Q E = fi env (fun items => items.length ≤ NN ∧ scG S bd ft fe (wipeE env vs) (fun acc => sortKR S acc Q) items []) E := rfl
end
end DL
namespace DL
open PySem PySem.Spec L2
theorem sub_ext {n a b : List Str} (ha : SubOk n a) (hb : SubOk n b) (h : ∀ s ∈ n, s ∈ a ↔ s ∈ b) : a = b :=
  sort_uniq (perm_of_mem ha.1.2 hb.1.2 fun s => ⟨fun m => (h s (ha.2.1 s m)).mp m, fun m => (h s (hb.2.1 s m)).mpr m⟩) ha.set.pw hb.set.pw
theorem sub_self {n : List Str} (h : SetOk n) : SubOk n n := ⟨h.1, fun _ m => m, h.2⟩
theorem turned_eq {n s : List Str} (hn : SetOk n) (hs : SubOk n s) : turnedS n s = n.filter (pN s (fstS n)) := by
  have h := near_eq hn.1 hs.1 hs.2.1
  unfold nearS at h
  rwa [hn.2, hs.2.2] at h
theorem turned_mem {n s : List Str} (hn : SetOk n) (hs : SubOk n s) {x : Str} : x ∈ turnedS n s ↔ x ∈ n ∧ ¬ (x ∈ s ↔ fstS n ∈ s) := by
  rw [turned_eq hn hs, List.mem_filter]
  unfold pN
  by_cases c : x ∈ s <;> by_cases c2 : fstS n ∈ s <;> simp [c, c2]
theorem turned_sub {n s : List Str} (hn : SetOk n) (hs : SubOk n s) : SubOk n (turnedS n s) := by
  rw [turned_eq hn hs]
  exact sub_of List.filter_sublist hn
theorem turned_id {n s : List Str} (hn : SetOk n) (hs : SubOk n s) (h : fstS n ∉ s) : turnedS n s = s := sub_ext (turned_sub hn hs) hs fun x m => by
  rw [turned_mem hn hs]
  simp [m, h]
def dividesB (n : Nat) (s : List Str) : Bool := decide (2 ≤ s.length) && decide (s.length + 2 ≤ n)
structure TrOk (n : List Str) (ls : List (List Str)) : Prop where
  nm : SetOk n
  len : n.length ≤ 12
  srt : ls.Pairwise fun a b => leL a b = true
  nd : ls.Nodup
  sub : ∀ s ∈ ls, SubOk n s
  div : ∀ s ∈ ls, dividesB n.length s = true
  near : ∀ s ∈ ls, fstS n ∉ s
  ap : ∀ a ∈ ls, ∀ b ∈ ls, ncross a b = false
  few : ls.length ≤ 62
theorem TrOk.turned {n : List Str} {ls : List (List Str)} (ok : TrOk n ls) {s : List Str} (m : s ∈ ls) : turnedS n s = s := turned_id ok.nm (ok.sub s m) (ok.near s m)
end DL
namespace DL
open PySem PySem.Spec L2
open PyProof.Rows (itemOrd lexLt lex_self lex_diff ltCps_eq)
theorem leL_cons {a b : Str} {l m : List Str} (h : leS a b = true) (ne : a ≠ b) : leL (a :: l) (b :: m) = true := by
  unfold leL leD PySem.W.dataLt
  rw [toks_tup, toks_tup]
  show (!lexLt itemOrd (.inl 1 :: .inr b.cps.toList :: toksL m) (.inl 1 :: .inr a.cps.toList :: toksL l)) = true
  rw [lex_self, lex_diff (fun z => ne (str_ext (by injection z with z; exact z.symm)))]
  unfold leS at h
  rw [ltCps_eq] at h
  exact h
end DL
namespace DL
open PySem PySem.Spec L2
abbrev tr (CT : Addr) (n : List Str) (ls : List (List Str)) : D := .obj CT ["_splits", "_names"] [.tup (ls.map fun l => .tup (l.map D.str)), .tup (n.map D.str)]
abbrev rowsD (ls : List (List Str)) : List D := ls.map fun l => .tup (l.map D.str)
section
variable {c : EK → Addr} {CT : Addr} {Q : RV → Prop} {E : Exc → Prop}
theorem TrOk.v {n : List Str} {ls : List (List Str)} (h : TrOk n ls) : LsV n ls := ⟨names_v h.nm.1.1, fun l m => names_v (h.sub l m).1.1⟩
end
theorem TrOk.rows {n : List Str} {ls : List (List Str)} (ok : TrOk n ls) : RowsD (rowsD ls) (ls.map fun l => l.map D.str) := rows_lists ok.sub (by have := ok.few; omega) (by have := ok.len; omega)
end DL
namespace DL
open PySem PySem.Spec L2
structure SubsOk (n : List Str) (k : Int) (i : Nat) (F : List (List Str)) : Prop where
  sub : ∀ l ∈ F, l.Sublist (n.take i)
  few : F.length ≤ 2 ^ i
  all : ∀ j : Nat, j ≤ i → j ≤ n.length → (j : Int) ≤ k → ∃ l ∈ F, l.length = j
theorem SubsOk.le {n : List Str} {k : Int} {i : Nat} {F : List (List Str)} (h : SubsOk n k i F) (hi : i ≤ 6) : F.length ≤ 64 := Nat.le_trans h.few (Nat.le_trans (Nat.pow_le_pow_right (by decide) hi) (by decide))
theorem flat_two : ∀ {B : List (List Str)}, (∀ b ∈ B, b ≠ []) → B.length ≤ B.flatten.length
  | [], _ => Nat.le_refl _
  | b :: B, h => by
    have ih := flat_two (B := B) fun x m => h x (List.mem_cons_of_mem _ m)
    have hb := h b List.mem_cons_self
    have : 0 < b.length := List.length_pos_iff.mpr hb
    rw [List.flatten_cons, List.length_append, List.length_cons]
    omega
end DL
namespace DL
open PySem PySem.Spec L2
theorem flat_len {α : Type} {a b : List (List α)} (h : a.Sublist b) : a.flatten.length ≤ b.flatten.length := by
  induction h with
  | slnil => exact Nat.le_refl _
  | cons x _ ih => rw [List.flatten_cons, List.length_append]; omega
  | cons_cons x _ ih => rw [List.flatten_cons, List.flatten_cons, List.length_append, List.length_append]; omega
theorem few_strs {d : D} {ss : List Str} {n : Int} {Q : RV → Prop} {E : Exc → Prop} (hd : seqD d = some (ss.map D.str)) (hl : ss.length ≤ 900) (hn : n ≤ 1000 ∧ -1000 ≤ n) (h : ∀ a b : List Str, (a ++ b).Perm ss → (0 ≤ n → n ≤ ss.length → (a.length : Int) = n) → Q (.own (a.map D.str))) : app fewF [.sto, .val d, .val (.int n)] Q E := by
  refine few_of hd (by rw [List.length_map]; exact hl) hn fun ys zs hp hy => ?_
  obtain ⟨a, b, rfl, rfl, hab⟩ := perm_strs hp
  exact h a b hab fun h1 h2 => by
    have := hy h1 (by rw [List.length_map]; exact h2)
    rwa [List.length_map] at this
end DL
namespace DL
open PySem PySem.Spec L2
section
variable {c : EK → Addr} {CT : Addr} {Q : RV → Prop} {E : Exc → Prop}
def RowsS (ds : List D) (ss : List (List Str)) : Prop := ds.map seqD = ss.map fun s => some (s.map D.str)
theorem RowsS.at {ds : List D} {ss : List (List Str)} {i : Nat} {d : D} (h : RowsS ds ss) (e : ds[i]? = some d) : ∃ s, ss[i]? = some s ∧ seqD d = some (s.map D.str) := by
  have e2 : (ds.map seqD)[i]? = some (seqD d) := by rw [List.getElem?_map, e]; rfl
  rw [h, List.getElem?_map] at e2
  obtain ⟨s, h1, h2⟩ := Option.map_eq_some_iff.mp e2
  exact ⟨s, h1, h2.symm⟩
theorem RowsS.len {ds : List D} {ss : List (List Str)} (h : RowsS ds ss) : ss.length = ds.length := by
  have := congrArg List.length h
  simpa using this.symm
end
section
variable {CT : Addr} {Q : RV → Prop} {E : Exc → Prop}
end
end DL
namespace DL
open PySem PySem.Spec PyProof.Rows
open L2 hiding St
section
variable {X : Cx} {g : G} {W : WX} {c cA cB cR h gv p w ws : Nat} {sp sA sB sR : SD} {nx : En → Prop} {ss rest body : List Stmt} {S : St → Hp → Prop} {T : Nat} {F H : Hp} {env : En} {σ : St}
structure NestG (g : G) (a : Addr) (bs : List Addr) : Prop where
  na : a ≠ g.st
  fa : g.F0 a = none
  ha : g.H0 a = some (.lst (bs.map V.ref))
  el : ∀ b ∈ bs, b ≠ a ∧ b ≠ g.st ∧ g.F0 b = none ∧ ∃ xs, g.H0 b = some (.lst xs)
theorem NestG.at {a : Addr} {bs : List Addr} (n : NestG g a bs) (ok : Ok g T F env σ H) : H a = some (.lst (bs.map V.ref)) ∧ F a = none ∧ ∀ b ∈ bs, b ≠ a ∧ b ≠ g.st ∧ F b = none ∧ ∃ xs, H b = some (.lst xs) := by
  refine ⟨ok.grow.hh a _ n.na n.ha, ok.grow.nf a n.fa (by rw [n.ha]; exact fun z => nomatch z), fun b m => ?_⟩
  obtain ⟨h1, h2, h3, xs, h4⟩ := n.el b m
  exact ⟨h1, h2, ok.grow.nf b h3 (by rw [h4]; exact fun z => nomatch z), xs, ok.grow.hh b _ h2 h4⟩
end
end DL
namespace DL
open PySem PySem.Spec L2
section
variable {X : Cx} {g : G} {W : WX} {ca cb : Nat} {s : Stmt} {rest : List Stmt} {sa sb : SD} {u : TS}
end
section
variable {CT : Addr} {Q : RV → Prop} {E : Exc → Prop}
end
end DL
namespace DL
open PySem PySem.Spec L2
end DL
namespace DL
open PySem PySem.Spec L2 PyProof.Rows
def rLtD (K : PySem.W.Frag) : R2 := fun x y H Q => ∃ d e, Dp K H x d ∧ Dp K H y e ∧ PySem.W.alike d e = true ∧ d ≠ .none ∧ d.depth ≤ 60 ∧ Q (.bl (PySem.W.dataLt d e)) H
section
variable {X : Cx} {g : G} {W : WX} {ca cb n : Nat} {fa fb : ED} {pos : Pos} {a b : Expr} {d e : D} {ds : List D} {Q : RV → Prop}
theorem op_ltD (hu : X.A.units + 65 < cLine) : OpR X (compareOp .Lt) (rLtD X.K) := by
  intro pins s σ H x y v u Q I rx ry h
  obtain ⟨d, e, hd, he, ha, hn, hl, q⟩ := h
  obtain ⟨as, r1⟩ := Dp.reads I d x v hd rx
  obtain ⟨bs, r2⟩ := Dp.reads I e y u he ry
  exact PySem.W.rcLt_alike d e _ _ _ _ as bs r1 r2 ha hn (by omega) _ _ _ _ ⟨.bl _, H, I, rfl, q⟩
def ltDQ : Q2 := fun x y Q => ∃ a b, asD x = some a ∧ asD y = some b ∧ okPy a = true ∧ okPy b = true ∧ PySem.W.alike (pyD a) (pyD b) = true ∧ pyD a ≠ .none ∧ (pyD a).depth ≤ 60 ∧ Q (.val (.bl (!leD b a)))
theorem mono_ltDQ : MonoQ2 ltDQ := fun x y Q Q' hq ⟨a, b, h1, h2, h3, h4, h5, h6, h7, q⟩ => ⟨a, b, h1, h2, h3, h4, h5, h6, h7, hq _ q⟩
theorem d_ltD : OpD g (rLtD g.K) ltDQ := by
  intro T F env σ H Hs x y v w Q Qv ok rx ry q k
  obtain ⟨a, b, h1, h2, h3, h4, h5, h6, h7, q⟩ := q
  have r1 := asD_rep ok h1 rx
  have r2 := asD_rep ok h2 ry
  unfold leD at q
  rw [Bool.not_not] at q
  exact ⟨_, _, dp_of h3 r1, dp_of h4 r2, h5, h6, h7, k _ F H _ q ok.refl ok (by simp only [RepR, Rep])⟩
theorem dt_ltD (cy : Cy X g W) (ha : DE X g W ca a fa) (hb : DE X g W cb b fb) : DT X g W (ca + cb) (.Compare a [.Lt] [b] pos) (tBool (eOp ltDQ fa fb)) := dt_cmp (by have h := op_ltD (X := X) (by have := cy.un; omega); rw [cy.k] at h; exact h) d_ltD mono_ltDQ ha hb (nomark _)
def ltDK (a b : D) (Q : RV → Prop) (_u : Fx Q := ()) : Prop := okPy a = true ∧ okPy b = true ∧ PySem.W.alike (pyD a) (pyD b) = true ∧ pyD a ≠ .none ∧ (pyD a).depth ≤ 60 ∧ Q (.val (.bl (!leD b a)))
theorem W_ltD : ltDQ (.val d) (.val e) Q = ltDK d e Q := propext ⟨fun ⟨_, _, h1, h2, q⟩ => by cases h1; cases h2; exact q, fun q => ⟨_, _, rfl, rfl, q⟩⟩
theorem lt_strs {s t : Str} (h : Q (.val (.bl (!leS t s)))) : ltDK (.str s) (.str t) Q := ⟨rfl, rfl, rfl, (fun z => nomatch z), (show (0 : Nat) ≤ 60 by decide), by rw [leD_str]; exact h⟩
theorem lt_tups {l m : List Str} (h : Q (.val (.bl (!leL m l)))) : ltDK (tupS l) (tupS m) Q := by
  refine ⟨okPys_strs l, okPys_strs m, alike_toks l m, (fun z => nomatch z), ?_, h⟩
  show PyData.depthAll (pyDs (l.map D.str)) + 1 ≤ 60
  rw [depth_strs]
  decide
end
theorem set_strict {l : List Str} (h : SetOk l) {i : Nat} {a b : Str} (ha : l[i]? = some a) (hb : l[i + 1]? = some b) : leS b a = false := by
  cases c : leS b a with
  | false => rfl
  | true =>
    obtain ⟨h1, e1⟩ := List.getElem?_eq_some_iff.mp ha
    obtain ⟨h2, e2⟩ := List.getElem?_eq_some_iff.mp hb
    have p := List.pairwise_iff_getElem.mp h.pw i (i + 1) h1 h2 (by omega)
    have n := List.pairwise_iff_getElem.mp h.1.2 i (i + 1) h1 h2 (by omega)
    rw [e1, e2] at p n
    exact absurd (leS_anti p c) n
theorem rows_strict {ls : List (List Str)} (hp : ls.Pairwise fun a b => leL a b = true) (hn : ls.Nodup) {i : Nat} {a b : List Str} (ha : ls[i]? = some a) (hb : ls[i + 1]? = some b) : leL b a = false := by
  cases c : leL b a with
  | false => rfl
  | true =>
    obtain ⟨h1, e1⟩ := List.getElem?_eq_some_iff.mp ha
    obtain ⟨h2, e2⟩ := List.getElem?_eq_some_iff.mp hb
    have p := List.pairwise_iff_getElem.mp hp i (i + 1) h1 h2 (by omega)
    have n := List.pairwise_iff_getElem.mp hn i (i + 1) h1 h2 (by omega)
    rw [e1, e2] at p n
    exact absurd (leD_anti p c) n
section
variable {CT : Addr} {Q : RV → Prop} {E : Exc → Prop}
end
end DL
namespace DL
open PySem PySem.Spec L2
open PyProof.Rows (itemOrd lexLt listOrd lex_total)
def leP (a b : List (List Str)) : Bool := leD (tupsD a) (tupsD b)
def sortP (ps : List (List (List Str))) : List (List (List Str)) := ps.mergeSort leP
def toksP : List (List Str) → List (Int ⊕ List Nat)
  | [] => [.inl 0]
  | l :: p => .inl 1 :: (toksL l ++ toksP p)
theorem toks_tups : ∀ p : List (List Str), PySem.W.keyToks (pyD (tupsD p)) = toksP p
  | [] => rfl
  | l :: p => by
    have ih : PySem.W.keyToksAll (pyDs (p.map tupS)) = toksP p := toks_tups p
    show PySem.W.keyToksAll (pyDs (tupS l :: p.map tupS)) = _
    rw [show pyDs (tupS l :: p.map tupS) = pyD (tupS l) :: pyDs (p.map tupS) from rfl, PySem.W.toks_all_cons, ih, toks_tup]
    rfl
theorem toksL_app : ∀ {l m : List Str} {r s : List (Int ⊕ List Nat)}, toksL l ++ r = toksL m ++ s → l = m ∧ r = s
  | [], [], _, _, h => ⟨rfl, by simpa [toksL] using h⟩
  | [], _ :: _, _, _, h => by simp [toksL] at h
  | _ :: _, [], _, _, h => by simp [toksL] at h
  | a :: l, b :: m, r, s, h => by
    simp only [toksL, List.cons_append, List.cons.injEq, Sum.inr.injEq, true_and] at h
    obtain ⟨h1, h2⟩ := toksL_app h.2
    exact ⟨by rw [str_ext h.1, h1], h2⟩
theorem toksP_inj : ∀ {p q : List (List Str)}, toksP p = toksP q → p = q
  | [], [], _ => rfl
  | [], _ :: _, h => by simp [toksP] at h
  | _ :: _, [], h => by simp [toksP] at h
  | l :: p, m :: q, h => by
    simp only [toksP, List.cons.injEq, true_and] at h
    obtain ⟨h1, h2⟩ := toksL_app h
    rw [h1, toksP_inj h2]
theorem leP_anti {p q : List (List Str)} (h1 : leP p q = true) (h2 : leP q p = true) : p = q := by
  unfold leP leD PySem.W.dataLt at h1 h2
  rw [toks_tups, toks_tups] at h1 h2
  have a : lexLt itemOrd (toksP q) (toksP p) = false := by simpa using h1
  have b : lexLt itemOrd (toksP p) (toksP q) = false := by simpa using h2
  exact toksP_inj (lex_total (O := itemOrd) _ _ b a)
theorem leP_total : PySem.W.TotalLe leP := PySem.W.sortLe_total (listOrd itemOrd) false fun l : List (List Str) => PySem.W.keyToks (pyD (tupsD l))
theorem sortP_perm (ls : List (List (List Str))) : (sortP ls).Perm ls := List.mergeSort_perm ls leP
theorem sortP_pw (ls : List (List (List Str))) : (sortP ls).Pairwise fun a b => leP a b = true := PySem.W.sort_pairwise leP_total ls
theorem sortP_mem {l : List (List Str)} {ls : List (List (List Str))} : l ∈ sortP ls ↔ l ∈ ls := (sortP_perm ls).mem_iff
abbrev tupssD (ps : List (List (List Str))) : D := .tup (ps.map tupsD)
theorem sortD_tupss (ps : List (List (List Str))) : sortD (ps.map tupsD) = (sortP ps).map tupsD := by
  unfold sortD sortP
  exact (PySem.W.sort_maps tupsD (r := leP) (s := leD) fun a _ b _ => rfl).symm
theorem depth_tups : ∀ l : List (List Str), PyData.depthAll (pyDs (l.map tupS)) ≤ 1
  | [] => Nat.zero_le _
  | s :: l => by
    show max (PyData.depthAll (pyDs (s.map D.str)) + 1) (PyData.depthAll (pyDs (l.map tupS))) ≤ 1
    rw [depth_strs]
    have := depth_tups l
    omega
theorem okPys_tups : ∀ l : List (List Str), okPys (l.map tupS) = true
  | [] => rfl
  | s :: l => by
    show (okPys (s.map D.str) && okPys (l.map tupS)) = true
    rw [okPys_strs, okPys_tups l]
    rfl
theorem alike_tups : ∀ l m : List (List Str), PySem.W.alikeAll (pyDs (l.map tupS)) (pyDs (m.map tupS)) = true
  | [], _ => by rw [show pyDs (([] : List (List Str)).map tupS) = [] from rfl, PySem.W.alikeAll]
  | _ :: _, [] => rfl
  | s :: l, t :: m => by
    show PySem.W.alikeAll (pyD (tupS s) :: pyDs (l.map tupS)) (pyD (tupS t) :: pyDs (m.map tupS)) = true
    rw [PySem.W.alikeAll, alike_tups l m, Bool.and_true]
    exact alike_toks s t
theorem sortOk_tupss {ls : List (List (List Str))} (h : 2 ≤ ls.length → ∀ l ∈ ls, l ≠ []) : SortOk (ls.map tupsD) := by
  refine ⟨fun d hd => ?_, fun d hd d' hd' => ?_, fun h2 => .inl fun d hd => ?_⟩
  · obtain ⟨l, _, rfl⟩ := List.mem_map.mp hd
    refine ⟨okPys_tups l, ?_⟩
    show PyData.depthAll (pyDs (l.map tupS)) + 1 ≤ 40
    have := depth_tups l
    omega
  · obtain ⟨x, hx, rfl⟩ := List.mem_map.mp hd
    obtain ⟨l, _, rfl⟩ := List.mem_map.mp hx
    obtain ⟨x', hx', rfl⟩ := List.mem_map.mp hd'
    obtain ⟨m, _, rfl⟩ := List.mem_map.mp hx'
    exact alike_tups l m
  · obtain ⟨x, hx, rfl⟩ := List.mem_map.mp hd
    obtain ⟨l, hl, rfl⟩ := List.mem_map.mp hx
    have ne := h (by simpa using h2) l hl
    match l, ne with
    | s :: l, _ => exact ⟨_, _, rfl⟩
theorem lt_tupss {l m : List (List Str)} {Q : RV → Prop} (h : Q (.val (.bl (!leP m l)))) : ltDK (tupsD l) (tupsD m) Q := by
  refine ⟨okPys_tups l, okPys_tups m, alike_tups l m, (fun z => nomatch z), ?_, h⟩
  show PyData.depthAll (pyDs (l.map tupS)) + 1 ≤ 60
  have := depth_tups l
  omega
theorem strictP {ls : List (List (List Str))} (hp : ls.Pairwise fun a b => leP a b = true) (hn : ls.Nodup) {i : Nat} {a b : List (List Str)} (ha : ls[i]? = some a) (hb : ls[i + 1]? = some b) : leP b a = false := by
  cases c : leP b a with
  | false => rfl
  | true =>
    obtain ⟨h1, e1⟩ := List.getElem?_eq_some_iff.mp ha
    obtain ⟨h2, e2⟩ := List.getElem?_eq_some_iff.mp hb
    have p := List.pairwise_iff_getElem.mp hp i (i + 1) h1 h2 (by omega)
    have n := List.pairwise_iff_getElem.mp hn i (i + 1) h1 h2 (by omega)
    rw [e1, e2] at p n
    exact absurd (leP_anti p c) n
section
variable {n : List Str} {ls : List (List Str)}
end
end DL
namespace DL
open PySem PySem.Spec L2
section
variable {n : List Str} {ls : List (List Str)}
structure PlOk (n : List Str) (p : List (List Str)) : Prop where
  sub : ∀ s ∈ p, SubOk n s ∧ s ≠ []
  len : 3 ≤ p.length
  nd : p.Nodup
  srt : p.Pairwise fun a b => leL a b = true
  flat : p.flatten.Perm n
end
end DL
namespace DL
open PySem PySem.Spec L2
section
variable {c : EK → Addr} {CT : Addr} {Q : RV → Prop} {E : Exc → Prop}
def lflatF : FD := fun rs Q _ => ∃ (d : D) (xss : List (List D)), rs = [.val d] ∧ seqD d = some (xss.map D.tup) ∧ xss.length ≤ 900 ∧ (∀ xs ∈ xss, xs.length ≤ 900) ∧ xss.flatten.length ≤ 5000 ∧ Q (.own xss.flatten)
theorem mono_lflatF : MonoF lflatF := fun rs Q Q' E E' hq he ⟨d, xss, h1, h2, h3, h4, h5, h6⟩ => ⟨d, xss, h1, h2, h3, h4, h5, hq _ h6⟩
theorem lflat_of {d : D} {xss : List (List D)} (h1 : seqD d = some (xss.map D.tup)) (h2 : xss.length ≤ 900) (h3 : ∀ xs ∈ xss, xs.length ≤ 900) (h4 : xss.flatten.length ≤ 5000) (h : Q (.own xss.flatten)) : app lflatF [.val d] Q E := ⟨d, xss, rfl, h1, h2, h3, h4, h⟩
end
theorem eq_lstd {g : Bool} {n : Nat} {xs ys : List D} {Q : RV → Prop} (ha : Dat n (.lst xs)) (hb : Dat n (.lst ys)) (l : n ≤ 64) (h : ∀ c : Bool, (c = true ↔ xs = ys) → Q (.val (.bl (if g then !c else c)))) : eqlQ g (.val (.lst xs)) (.val (.lst ys)) Q := by
  refine ⟨_, _, rfl, rfl, (dat_sh n _ ha).1, (dat_sh n _ hb).1, dat_shaped ha l, dat_shaped hb l, ?_⟩
  refine h _ ?_
  rw [eqv_dat n _ _ ha hb, D.lst.injEq]
end DL
namespace DL
open PySem PySem.Spec L2
end DL
namespace DL
open PySem PySem.Spec L2
open PyProof.Rows (itemOrd lexLt listOrd lex_total lex_self lex_diff)
section
variable {n : List Str} {ls : List (List Str)}
theorem PlOk.apart {p : List (List Str)} (h : PlOk n p) (hn : n.Nodup) {a b : List Str} (ha : a ∈ p) (hb : b ∈ p) {x : Str} (xa : x ∈ a) (xb : x ∈ b) : a = b := by
  have nd : p.flatten.Nodup := h.flat.nodup_iff.mpr hn
  have go : ∀ {p : List (List Str)}, p.flatten.Nodup → a ∈ p → b ∈ p → a = b := fun {p} => by
    induction p with
    | nil => intro _ m; cases m
    | cons c p ih =>
      intro nd ha hb
      rw [List.flatten_cons, List.nodup_append] at nd
      have no : ∀ d ∈ p, x ∈ c → x ∈ d → False := fun d md m1 m2 => nd.2.2 x m1 x (List.mem_flatten.mpr ⟨d, md, m2⟩) rfl
      rcases List.mem_cons.mp ha with e1 | h1
      · rcases List.mem_cons.mp hb with e2 | h2
        · rw [e1, e2]
        · exact (no b h2 (by rw [← e1]; exact xa) xb).elim
      · rcases List.mem_cons.mp hb with e2 | h2
        · exact (no a h1 (by rw [← e2]; exact xb) xa).elim
        · exact ih nd.2.1 h1 h2
  exact go nd ha hb
end
end DL
namespace DL
open PySem PySem.Spec L2
section
variable {n w : List Str} {ls : List (List Str)}
end
end DL
namespace DL
open PySem PySem.Spec L2
open PyProof.Rows (itemOrd lexLt listOrd lex_total lex_self lex_diff)
section
variable {n : List Str} {ls : List (List Str)}
end
section
variable {CT : Addr} {Q : RV → Prop} {E : Exc → Prop}
end
end DL
namespace DL
open PySem PySem.Spec PyProof.Rows
open L2 hiding St
def OwnLess (b : BD) : Prop := ∀ d env P, b d env P → b d env fun e => P e ∧ ∀ (i : Nat) (ys : List D), e[i]? = some (some (SV.own ys)) → env[i]? = some (some (SV.own ys))
theorem ol_name (j : Nat) : OwnLess (bName j) := fun d env P h => ⟨h, fun i ys e => by
  by_cases c : j = i
  · subst c
    rw [List.getElem?_set] at e
    simp only [if_true] at e
    split at e <;> simp at e
  · rwa [List.getElem?_set_ne c] at e⟩
def lcW2 (b : BD) (ft : TD) (fi1 : ID) (b1 : BD) (ft1 : TD) (fe : ED) (vs1 : List Nat) (env0 : En) (Q : List D → Prop) : List D → List D → Prop
  | [], acc => Q acc
  | d :: ds, acc => b d env0 (fun env1 => ft env1 (fun t => if t = true then fi1 env1 (fun items1 => items1.length ≤ NN ∧ acc.length + items1.length ≤ 90000 ∧ lcW b1 ft1 fe (wipeE env1 vs1) (fun acc' => lcW2 b ft fi1 b1 ft1 fe vs1 env0 Q ds acc') items1 acc) (fun _ => False) else lcW2 b ft fi1 b1 ft1 fe vs1 env0 Q ds acc) (fun _ => False))
theorem lcW2_mono {b : BD} {ft : TD} {fi1 : ID} {b1 : BD} {ft1 : TD} {fe : ED} {vs1 : List Nat} {env0 : En} {Q Q' : List D → Prop} (hb : ∀ d env P P', (∀ e, P e → P' e) → b d env P → b d env P') (ht : MonoE ft) (hi : MonoE fi1) (hb1 : ∀ d env P P', (∀ e, P e → P' e) → b1 d env P → b1 d env P') (ht1 : MonoE ft1) (he : MonoE (frz fe)) (hq : ∀ l, Q l → Q' l) : ∀ ds acc, lcW2 b ft fi1 b1 ft1 fe vs1 env0 Q ds acc → lcW2 b ft fi1 b1 ft1 fe vs1 env0 Q' ds acc
  | [], acc, h => hq _ h
  | d :: ds, acc, h => hb _ _ _ _ (fun e q => ht e _ _ _ _ (fun t q => by
    cases t with
    | true =>
      have q' : fi1 e (fun items1 => items1.length ≤ NN ∧ acc.length + items1.length ≤ 90000 ∧ lcW b1 ft1 fe (wipeE e vs1) (fun acc' => lcW2 b ft fi1 b1 ft1 fe vs1 env0 Q ds acc') items1 acc) (fun _ => False) := q
      show fi1 e (fun items1 => items1.length ≤ NN ∧ acc.length + items1.length ≤ 90000 ∧ lcW b1 ft1 fe (wipeE e vs1) (fun acc' => lcW2 b ft fi1 b1 ft1 fe vs1 env0 Q' ds acc') items1 acc) (fun _ => False)
      exact hi e _ _ _ _ (fun is ⟨q1, q2, q3⟩ => ⟨q1, q2, lcW_mono hb1 ht1 he (fun l q => lcW2_mono hb ht hi hb1 ht1 he hq ds l q) _ _ q3⟩) (fun _ h => h) q'
    | false => exact lcW2_mono hb ht hi hb1 ht1 he hq ds _ q) (fun _ h => h) q) h
def eLc2 (fi : ID) (b : BD) (ft : TD) (fi1 : ID) (b1 : BD) (ft1 : TD) (fe : ED) (vs vs1 : List Nat) : ED := fun env Q E => fi env (fun items => items.length ≤ NN ∧ lcW2 b ft fi1 b1 ft1 fe vs1 (wipeE env vs) (fun acc => Q (.own acc)) items []) E
section
variable {X : Cx} {g : G} {W : WX} {ca cb cc cd ce : Nat}
theorem lc2_fit (cy : Cy X g W) {elt tg iter tg1 iter1 : Expr} {ifs ifs1 : List Expr} {scope : Scope} {own : List (Str × Nat)} {pos : Pos} {fi fi1 : ID} {b b1 : BD} {sl sl1 vs1 : List Nat} {t t1 : TG} {ft ft1 : TD} {fe : ED} (hN : X.N.Nodup) (hi : DI X g W ca tg iter fi)
    (hg : ∀ (s : Shared) (H : Hp) (C : Addr) (cl : List (Str × Addr)) (fp : List Addr), Cy (X.blk s H scope (compEnvC scope cl C X.env) fp) g W0 → DG (X.blk s H scope (compEnvC scope cl C X.env) fp) g tg b sl t)
    (ht : ∀ (s : Shared) (H : Hp) (C : Addr) (cl : List (Str × Addr)) (fp : List Addr), Cy (X.blk s H scope (compEnvC scope cl C X.env) fp) g W0 → DTs (X.blk s H scope (compEnvC scope cl C X.env) fp) g W0 cb ifs ft)
    (hi1 : ∀ (s : Shared) (H : Hp) (C : Addr) (cl : List (Str × Addr)) (fp : List Addr), Cy (X.blk s H scope (compEnvC scope cl C X.env) fp) g W0 → DI (X.blk s H scope (compEnvC scope cl C X.env) fp) g W0 cd tg1 iter1 fi1)
    (hg1 : ∀ (s : Shared) (H : Hp) (C : Addr) (cl : List (Str × Addr)) (fp : List Addr), Cy (X.blk s H scope (compEnvC scope cl C X.env) fp) g W0 → DG (X.blk s H scope (compEnvC scope cl C X.env) fp) g tg1 b1 sl1 t1)
    (ht1 : ∀ (s : Shared) (H : Hp) (C : Addr) (cl : List (Str × Addr)) (fp : List Addr), Cy (X.blk s H scope (compEnvC scope cl C X.env) fp) g W0 → DTs (X.blk s H scope (compEnvC scope cl C X.env) fp) g W0 ce ifs1 ft1)
    (he : ∀ (s : Shared) (H : Hp) (C : Addr) (cl : List (Str × Addr)) (fp : List Addr), Cy (X.blk s H scope (compEnvC scope cl C X.env) fp) g W0 → DE (X.blk s H scope (compEnvC scope cl C X.env) fp) g W0 cc elt fe)
    (hol : OwnLess b) (hsl : ∀ i ∈ sl, i ∈ own.map (·.2)) (hsl1 : ∀ i ∈ sl1, i ∈ vs1) :
    (∀ σ H Q, tD g W (ca + NN * (cb + (cd + NN * (ce + cc)))) (eLc2 fi b ft fi1 b1 ft1 fe (own.map (·.2)) vs1) σ H Q → tLc2 (tDI g W ca fi) t (tDT g W0 cb ft) (tDI g W0 cd fi1) t1 (tDT g W0 ce ft1) (tD g W0 cc (frz fe)) (own.map (·.2)) vs1 σ H Q) ∧ MonoE (eLc2 fi b ft fi1 b1 ft1 fe (own.map (·.2)) vs1) := by
  have hg0 := hg X.s_0 X.H_0 0 [] [] (cy.blk _ _ _ _ _)
  have ht0 := ht X.s_0 X.H_0 0 [] [] (cy.blk _ _ _ _ _)
  have hi10 := hi1 X.s_0 X.H_0 0 [] [] (cy.blk _ _ _ _ _)
  have hg10 := hg1 X.s_0 X.H_0 0 [] [] (cy.blk _ _ _ _ _)
  have ht10 := ht1 X.s_0 X.H_0 0 [] [] (cy.blk _ _ _ _ _)
  have he0 := (he X.s_0 X.H_0 0 [] [] (cy.blk _ _ _ _ _)).frz
  generalize hst : cb + (cd + NN * (ce + cc)) = st
  refine ⟨fun σ H Q ⟨T, F, env, hT, o0, h⟩ => ?_,
    fun env Q Q' E E' hq hx h => hi.mono env _ _ _ _ (fun is q => ⟨q.1, lcW2_mono hg0.mono ht0.mono hi10.mono hg10.mono ht10.mono he0.mono (fun l q => hq _ q) _ _ q.2⟩) hx h⟩
  refine ⟨T, F, env, by omega, o0, hi.mono env _ _ _ _ (fun items ⟨hl, q⟩ F1 H1 J w o wk p hp => ?_) (exE.shift o0.refl (by omega)) h⟩
  generalize hvs : own.map (·.2) = vs at q hsl ⊢
  have np : p ≠ g.st := fun z => o.sto.some (by rw [← z]; exact hp)
  have h0p : g.H0 p = none := (o.newOf p hp).resolve_right np
  have hHp : H p = none := by
    cases e : H p with
    | none => rfl
    | some x =>
      have z := w.hh p x np e
      rw [hp] at z
      cases z
  have now : NotOwn (wipeE env vs) (wipe σ vs) p := (o.notOwn hp).wipe o.len vs
  refine ⟨fun i m H' => m = items.length - i ∧ i ≤ items.length ∧ ∃ F' acc us, Grow g.st F1 H1 F' H' ∧ StoreAt g.K g.st (T + ca + i * st) F' H' ∧ H' p = some (.lst us) ∧ F' p = none ∧ RepL g.K F' acc us ∧ lcW2 b ft fi1 b1 ft1 fe vs1 (wipeE env vs) (fun acc => okE g T (ca + NN * st) F env σ H Q (.own acc)) (items.drop i) acc,
    ⟨items.length, rfl, Nat.zero_le _, F1, [], [], Grow.new o.fh o.sto.free hp, (o.sto.new hp).up (by omega), upd_same, Evl.fresh_back o.fh hp, repL_nil.mpr rfl, by simpa using q⟩, ?_⟩
  rintro i m H' ⟨rfl, hi', F', acc, us, g1, s1, hp1, hf1, r1, q⟩
  have ok' : Ok g (T + ca + i * st) F' env σ H' := o.grown g1 s1
  by_cases hlt : i < items.length
  · have hm : (i + 1) * st ≤ NN * st := Nat.mul_le_mul_right _ (by omega)
    have hm2 : (i + 1) * st = i * st + st := Nat.succ_mul i _
    have okw := ok'.wipe vs
    refine .inr ⟨wk.go g1.ff ok'.fh hlt, fun H2 => ∃ m', m' < items.length - i ∧ m' = items.length - (i + 1) ∧ (i + 1) ≤ items.length ∧ ∃ F' acc us, Grow g.st F1 H1 F' H2 ∧ StoreAt g.K g.st (T + ca + (i + 1) * st) F' H2 ∧ H2 p = some (.lst us) ∧ F' p = none ∧ RepL g.K F' acc us ∧ lcW2 b ft fi1 b1 ft1 fe vs1 (wipeE env vs) (fun acc => okE g T (ca + NN * st) F env σ H Q (.own acc)) (items.drop (i + 1)) acc, ?_, ?_⟩
    · rintro H2 ⟨m', hm', rfl, r2, r3⟩
      exact ⟨_, hm', rfl, r2, r3⟩
    · intro xv H2 hy
      obtain ⟨d, F2, hd, w2, o2, rd⟩ := wk.yld hlt g1.ff okw hy
      have ed : items.drop i = d :: items.drop (i + 1) := by
        rw [List.drop_eq_getElem_cons hlt]
        rw [List.getElem?_eq_getElem hlt] at hd
        cases hd
        rfl
      rw [ed] at q
      have q : b d (wipeE env vs) (fun env1 => ft env1 (fun t => if t = true then fi1 env1 (fun items1 => items1.length ≤ NN ∧ acc.length + items1.length ≤ 90000 ∧ lcW b1 ft1 fe (wipeE env1 vs1) (fun acc' => lcW2 b ft fi1 b1 ft1 fe vs1 (wipeE env vs) (fun acc => okE g T (ca + NN * st) F env σ H Q (.own acc)) (items.drop (i + 1)) acc') items1 acc) (fun _ => False) else lcW2 b ft fi1 b1 ft1 fe vs1 (wipeE env vs) (fun acc => okE g T (ca + NN * st) F env σ H Q (.own acc)) (items.drop (i + 1)) acc) (fun _ => False)) := q
      refine hg0.snd o2 rd (hol _ _ _ q) fun env3 σ3 o3 kp ⟨q3, ol⟩ => ⟨(kp vs hsl).trans (wipe_wipe σ vs), ?_⟩
      have now3 : NotOwn env3 σ3 p := fun k ys e => by
        have e2 := ol k ys e
        have kv : k ∉ vs := fun m => by
          have e3 := e2
          have lk := (List.getElem?_eq_some_iff.mp e3).1
          have : ∀ (vs : List Nat) (en : En), k ∈ vs → k < en.length → (wipeE en vs)[k]? = some none := fun vs en => by
            induction vs with
            | nil => intro m; cases m
            | cons j vs ih =>
              intro m hl
              show ((wipeE en vs).set j none)[k]? = _
              by_cases c : j = k
              · subst c
                have hl2 : (wipeE en vs).length = en.length := by
                  clear ih m
                  induction vs with
                  | nil => rfl
                  | cons a vs ih => show ((wipeE en vs).set a none).length = _; rw [List.length_set]; exact ih
                rw [List.getElem?_set_self (by rw [hl2]; exact hl)]
              · rw [List.getElem?_set_ne c]
                exact ih ((List.mem_cons.mp m).resolve_left fun z => c z.symm) hl
          have hl : k < env.length := by
            have hl2 : ∀ (vs : List Nat), (wipeE env vs).length = env.length := fun vs => by
              induction vs with
              | nil => rfl
              | cons a vs ih => show ((wipeE env vs).set a none).length = _; rw [List.length_set]; exact ih
            rw [hl2] at lk
            exact lk
          rw [this vs env m hl] at e3
          cases e3
        have n2 := now k ys e2
        intro z
        refine n2 ?_
        have a1 := wipe_get σ3 vs k
        have a2 := wipe_get (wipe σ vs) vs k
        rw [if_neg (fun z => kv z.1)] at a1 a2
        rw [kp vs hsl, a2] at a1
        rw [a1]
        exact z
      refine ⟨T + ca + i * st, F2, env3, by omega, o3, ht0.mono env3 _ _ _ _ (fun tb q4 F3 H3 w3 o4 => ?_) (fun x f => f.elim) q3⟩
      cases tb with
      | true =>
        have q4' : fi1 env3 (fun items1 => items1.length ≤ NN ∧ acc.length + items1.length ≤ 90000 ∧ lcW b1 ft1 fe (wipeE env3 vs1) (fun acc' => lcW2 b ft fi1 b1 ft1 fe vs1 (wipeE env vs) (fun acc => okE g T (ca + NN * st) F env σ H Q (.own acc)) (items.drop (i + 1)) acc') items1 acc) (fun _ => False) := q4
        refine ⟨T + ca + i * st + cb, F3, env3, by omega, o4, hi10.mono env3 _ _ _ _ (fun items1 ⟨hl1, hl2, q5⟩ F4 H4 J1 w4 o5 wk1 => ?_) (fun x f => f.elim) q4'⟩
        have wt0 := w2.trans (w3.trans w4)
        refine ⟨fun j k H' => k = items1.length - j ∧ j ≤ items1.length ∧ ∃ F' acc' us', Ex F4 F' ∧ Ok g (T + ca + i * st + cb + cd + j * (ce + cc)) F' env3 σ3 H' ∧ Grow g.st F1 H1 F' H' ∧ H' p = some (.lst us') ∧ F' p = none ∧ RepL g.K F' acc' us' ∧ acc'.length ≤ acc.length + j ∧ lcW b1 ft1 fe (wipeE env3 vs1) (fun acc' => lcW2 b ft fi1 b1 ft1 fe vs1 (wipeE env vs) (fun acc => okE g T (ca + NN * st) F env σ H Q (.own acc)) (items.drop (i + 1)) acc') (items1.drop j) acc',
          ⟨items1.length, rfl, Nat.zero_le _, F4, acc, us, Evl.Ex.refl F4, o5.up (by omega), g1.trans wt0, wt0.hh p _ np hp1, wt0.nf p hf1 (by rw [hp1]; exact fun z => nomatch z), r1.mono wt0.ff, Nat.le_refl _, by simpa using q5⟩, ?_⟩
        rintro j k H5 ⟨rfl, hj', F5, acc', us', x5, ok5, g5, hp5, hf5, r5, l5, q6⟩
        by_cases hjt : j < items1.length
        · have hn : (j + 1) * (ce + cc) ≤ NN * (ce + cc) := Nat.mul_le_mul_right _ (by omega)
          have hn2 : (j + 1) * (ce + cc) = j * (ce + cc) + (ce + cc) := Nat.succ_mul j _
          have okw5 := ok5.wipe vs1
          refine .inr ⟨wk1.go x5 ok5.fh hjt, fun H2 => ∃ k', k' < items1.length - j ∧ k' = items1.length - (j + 1) ∧ (j + 1) ≤ items1.length ∧ ∃ F' acc' us', Ex F4 F' ∧ Ok g (T + ca + i * st + cb + cd + (j + 1) * (ce + cc)) F' env3 σ3 H2 ∧ Grow g.st F1 H1 F' H2 ∧ H2 p = some (.lst us') ∧ F' p = none ∧ RepL g.K F' acc' us' ∧ acc'.length ≤ acc.length + (j + 1) ∧ lcW b1 ft1 fe (wipeE env3 vs1) (fun acc' => lcW2 b ft fi1 b1 ft1 fe vs1 (wipeE env vs) (fun acc => okE g T (ca + NN * st) F env σ H Q (.own acc)) (items.drop (i + 1)) acc') (items1.drop (j + 1)) acc', ?_, ?_⟩
          · rintro H6 ⟨k', hk', rfl, r2, r3⟩
            exact ⟨_, hk', rfl, r2, r3⟩
          · intro yv H6 hy1
            obtain ⟨d1, F6, hd1, w6, o6, rd1⟩ := wk1.yld hjt x5 okw5 hy1
            have ed1 : items1.drop j = d1 :: items1.drop (j + 1) := by
              rw [List.drop_eq_getElem_cons hjt]
              rw [List.getElem?_eq_getElem hjt] at hd1
              cases hd1
              rfl
            rw [ed1] at q6
            refine hg10.snd o6 rd1 q6 fun env7 σ7 o7 kp1 q7 => ⟨(kp1 vs1 hsl1).trans (wipe_wipe σ3 vs1), ?_⟩
            refine ⟨T + ca + i * st + cb + cd + j * (ce + cc), F6, env7, by omega, o7, ht10.mono env7 _ _ _ _ (fun tb q8 F8 H8 w8 o8 => ?_) (fun x f => f.elim) q7⟩
            cases tb with
            | true =>
              have q8' : frz fe env7 (fun r => ∃ e, r = .val e ∧ lcW b1 ft1 fe (wipeE env3 vs1) (fun acc' => lcW2 b ft fi1 b1 ft1 fe vs1 (wipeE env vs) (fun acc => okE g T (ca + NN * st) F env σ H Q (.own acc)) (items.drop (i + 1)) acc') (items1.drop (j + 1)) (acc' ++ [e])) (fun _ => False) := q8
              refine ⟨T + ca + i * st + cb + cd + j * (ce + cc) + ce, F8, env7, by omega, o8, he0.mono env7 _ _ _ _ (fun r hz F9 H9 v9 w9 o9 r9 => ?_) (fun x f => f.elim) q8'⟩
              obtain ⟨z, rfl, qz⟩ := hz
              have wt := w6.trans (w8.trans w9)
              have hp9 := wt.hh p _ np hp5
              have hf9 := wt.nf p hf5 (by rw [hp5]; exact fun z => nomatch z)
              have lu := r5.length
              have gt := g5.trans wt
              have ok9 : Ok g (T + ca + i * st + cb + cd + j * (ce + cc) + ce + cc) F9 env3 σ3 H9 := ok5.grown wt (o9.sto.up (by omega))
              have oku := ok9.updOwn (o := .lst (us' ++ [v9])) hf9 np h0p now3
              refine ⟨us', hp9, lim_lt (by show us'.length < 100000; omega), items1.length - (j + 1), by omega, rfl, hjt, F9, acc' ++ [z], us' ++ [v9], x5.trans wt.ff, oku.up (by omega), ⟨gt.ff, fun b x e => by rw [upd_ne (ne_of_none e hf9)]; exact gt.fh b x e, fun b x n e => by rw [upd_ne (ne_of_none e hp)]; exact gt.hh b x n e, gt.nf, gt.sf⟩, upd_same, hf9, (r5.mono wt.ff).append (repL_cons.mpr ⟨v9, [], rfl, r9, repL_nil.mpr rfl⟩), by simp; omega, qz⟩
            | false =>
              have q8' : lcW b1 ft1 fe (wipeE env3 vs1) (fun acc' => lcW2 b ft fi1 b1 ft1 fe vs1 (wipeE env vs) (fun acc => okE g T (ca + NN * st) F env σ H Q (.own acc)) (items.drop (i + 1)) acc') (items1.drop (j + 1)) acc' := q8
              have wt := w6.trans w8
              have hp9 := wt.hh p _ np hp5
              have hf9 := wt.nf p hf5 (by rw [hp5]; exact fun z => nomatch z)
              have ok9 : Ok g (T + ca + i * st + cb + cd + j * (ce + cc) + ce) F8 env3 σ3 H8 := ok5.grown wt (o8.sto.up (by omega))
              exact ⟨items1.length - (j + 1), by omega, rfl, hjt, F8, acc', us', x5.trans wt.ff, ok9.up (by omega), g5.trans wt, hp9, hf9, r5.mono wt.ff, by omega, q8'⟩
        · have hle : items1.length ≤ j := by omega
          refine .inl ⟨wk1.stop x5 ok5.fh hle, ?_⟩
          rw [List.drop_eq_nil_of_le hle] at q6
          have hn : j * (ce + cc) ≤ NN * (ce + cc) := Nat.mul_le_mul_right _ (by omega)
          exact ⟨items.length - (i + 1), by omega, rfl, hlt, F5, acc', us', g5, ok5.sto.up (by omega), hp5, hf5, r5, q6⟩
      | false =>
        have q4' : lcW2 b ft fi1 b1 ft1 fe vs1 (wipeE env vs) (fun acc => okE g T (ca + NN * st) F env σ H Q (.own acc)) (items.drop (i + 1)) acc := q4
        have wt := w2.trans w3
        have hp4 := wt.hh p _ np hp1
        have hf4 := wt.nf p hf1 (by rw [hp1]; exact fun z => nomatch z)
        exact ⟨items.length - (i + 1), by omega, rfl, hlt, F3, acc, us, g1.trans wt, o4.sto.up (by omega), hp4, hf4, r1.mono wt.ff, q4'⟩
  · have hle : items.length ≤ i := by omega
    refine .inl ⟨wk.stop g1.ff ok'.fh hle, ?_⟩
    rw [List.drop_eq_nil_of_le hle] at q
    have hm : i * st ≤ NN * st := Nat.mul_le_mul_right _ (by omega)
    have ok2 := ok'.up (T' := T + (ca + NN * st)) (by omega)
    exact q F' H' (.ref p) (w.trans g1) ok2 ⟨p, rfl, ⟨np, hHp, hf1, us, hp1, r1⟩, o.notOwn hp⟩
theorem ds_asgLc2 (i : Nat) {x : Str} {spos pos' : Pos} (cy : Cy X g W) {elt tg iter tg1 iter1 : Expr} {ifs ifs1 : List Expr} {scope : Scope} {own : List (Str × Nat)} {pos : Pos} {fi fi1 : ID} {b b1 : BD} {sl sl1 : List Nat} {t t1 : TG} {ft ft1 : TD} {fe : ED} (vs1 : List Nat) (hN : X.N.Nodup) (hi : DI X g W ca tg iter fi) (ok : BlkOk X.N X.env.scope scope own)
    (hg : ∀ (s : Shared) (H : Hp) (C : Addr) (cl : List (Str × Addr)) (fp : List Addr), Cy (X.blk s H scope (compEnvC scope cl C X.env) fp) g W0 → DG (X.blk s H scope (compEnvC scope cl C X.env) fp) g tg b sl t)
    (ht : ∀ (s : Shared) (H : Hp) (C : Addr) (cl : List (Str × Addr)) (fp : List Addr), Cy (X.blk s H scope (compEnvC scope cl C X.env) fp) g W0 → DTs (X.blk s H scope (compEnvC scope cl C X.env) fp) g W0 cb ifs ft)
    (hi1 : ∀ (s : Shared) (H : Hp) (C : Addr) (cl : List (Str × Addr)) (fp : List Addr), Cy (X.blk s H scope (compEnvC scope cl C X.env) fp) g W0 → DI (X.blk s H scope (compEnvC scope cl C X.env) fp) g W0 cd tg1 iter1 fi1)
    (hg1 : ∀ (s : Shared) (H : Hp) (C : Addr) (cl : List (Str × Addr)) (fp : List Addr), Cy (X.blk s H scope (compEnvC scope cl C X.env) fp) g W0 → DG (X.blk s H scope (compEnvC scope cl C X.env) fp) g tg1 b1 sl1 t1)
    (ht1 : ∀ (s : Shared) (H : Hp) (C : Addr) (cl : List (Str × Addr)) (fp : List Addr), Cy (X.blk s H scope (compEnvC scope cl C X.env) fp) g W0 → DTs (X.blk s H scope (compEnvC scope cl C X.env) fp) g W0 ce ifs1 ft1)
    (he : ∀ (s : Shared) (H : Hp) (C : Addr) (cl : List (Str × Addr)) (fp : List Addr), Cy (X.blk s H scope (compEnvC scope cl C X.env) fp) g W0 → DE (X.blk s H scope (compEnvC scope cl C X.env) fp) g W0 cc elt fe)
    (hol : OwnLess b) (hsl : ∀ i ∈ sl, i ∈ own.map (·.2) := by decide) (hsl1 : ∀ i ∈ sl1, i ∈ vs1 := by decide) (hv : ∀ i ∈ vs1, i ∈ own.map (·.2) := by decide) (hfs : ∀ (x : Value), foldedSetIterable iter X.env x = pure x := by intro _; rfl) (hfs1 : ∀ env (x : Value), foldedSetIterable iter1 env x = pure x := by intro _ _; rfl)
    (hx : X.N[i]? = some x := by rfl) (hxl : X.env.scope.names.lookup x = some .local := by rfl) (hk : X.env.scope.kind = .function := by rfl) (hl : (pos'.line == pos.line) = true := by rfl) (ha : (scope.names.any fun (n, k) => n == x && (k == .local || k == .cell)) = false := by rfl) (hc : X.calm = true := by rfl) :
    DS X g W (ca + NN * (cb + (cd + NN * (ce + cc)))) (.Assign [.Name x pos'] (.ListComp elt [⟨tg, iter, ifs, 0⟩, ⟨tg1, iter1, ifs1, 0⟩] scope pos) spos) (sAsg i (frz (eLc2 fi b ft fi1 b1 ft1 fe (own.map (·.2)) vs1))) := by
  have f := lc2_fit cy hN hi hg ht hi1 hg1 ht1 he hol hsl hsl1 (elt := elt) (pos := pos)
  refine ds_freeze (⟨PSimp (ps_setLc2 hc hN hx hxl (sw_true hk hxl hl ha) hi.pi ok hv (fun s H C cl fp => (hg s H C cl fp (cy.blk _ _ _ _ _)).pg) (fun s H C cl fp => (ht s H C cl fp (cy.blk _ _ _ _ _)).pts) (fun s H C cl fp => (hi1 s H C cl fp (cy.blk _ _ _ _ _)).pi) (fun s H C cl fp => (hg1 s H C cl fp (cy.blk _ _ _ _ _)).pg) (fun s H C cl fp => (ht1 s H C cl fp (cy.blk _ _ _ _ _)).pts) (fun s H C cl fp => (he s H C cl fp (cy.blk _ _ _ _ _)).frz.pe) hfs hfs1) fun D σ H ⟨T, F, env, hT, ok, h⟩ => ?_, mono_asg f.2⟩ : DS X g W _ _ (sAsg i (eLc2 fi b ft fi1 b1 ft1 fe (own.map (·.2)) vs1))) f.2
  refine f.1 σ H _ ?_
  exact run_e ok hT f.2 h (fun r ⟨s, h1, q⟩ F1 H1 v w o rr => q F1 _ H1 w.ff (o.setR i h1 rr ok.newOf)) (exE.of ok (Nat.le_refl _) rfl)
end
def lcG2 (b : BD) (ft : TD) (fi1 : ID) (b1 : BD) (ft1 : TD) (fe : ED) (vs1 : List Nat) (env0 : En) (Q : List D → Prop) (ds acc : List D) (_u : Fx Q := ()) : Prop := lcW2 b ft fi1 b1 ft1 fe vs1 env0 Q ds acc
theorem W_lc2 {fi : ID} {b : BD} {ft : TD} {fi1 : ID} {b1 : BD} {ft1 : TD} {fe : ED} {vs vs1 : List Nat} {env : En} {Q : RV → Prop} {E : Exc → Prop} : eLc2 fi b ft fi1 b1 ft1 fe vs vs1 env Q E = fi env (fun items => items.length ≤ NN ∧ lcG2 b ft fi1 b1 ft1 fe vs1 (wipeE env vs) (fun acc => Q (.own acc)) items []) E := rfl
theorem lcG2_inv {b : BD} {ft : TD} {fi1 : ID} {b1 : BD} {ft1 : TD} {fe : ED} {vs1 : List Nat} {env0 : En} {Q : List D → Prop} {items : List D} (I : Nat → List D → Prop)
    (step : ∀ i d acc (Y : List D → Prop), items[i]? = some d → I i acc → (∀ acc', I (i + 1) acc' → Y acc') → b d env0 (fun env1 => ft env1 (fun t => if t = true then fi1 env1 (fun items1 => items1.length ≤ NN ∧ acc.length + items1.length ≤ 90000 ∧ lcG b1 ft1 fe (wipeE env1 vs1) Y items1 acc) (fun _ => False) else Y acc) (fun _ => False)))
    (fin : ∀ acc, I items.length acc → Q acc) (acc0 : List D) (h0 : I 0 acc0) : lcG2 b ft fi1 b1 ft1 fe vs1 env0 Q items acc0 := by
  have go : ∀ (k : Nat) (acc : List D), k ≤ items.length → I k acc → lcW2 b ft fi1 b1 ft1 fe vs1 env0 Q (items.drop k) acc := by
    intro k
    induction hk : items.length - k generalizing k with
    | zero =>
      intro acc hl hI
      have : k = items.length := by omega
      subst this
      rw [List.drop_length]
      exact fin acc hI
    | succ m ih =>
      intro acc hl hI
      have lt : k < items.length := by omega
      rw [List.drop_eq_getElem_cons lt]
      exact step k items[k] acc (fun acc' => lcW2 b ft fi1 b1 ft1 fe vs1 env0 Q (items.drop (k + 1)) acc') (List.getElem?_eq_getElem lt) hI fun acc' hI' => ih (k + 1) (by omega) acc' (by omega) hI'
  have := go 0 acc0 (Nat.zero_le _) h0
  rwa [List.drop_zero] at this
end DL
namespace DL
open PySem PySem.Spec L2
open PyProof.Rows (itemOrd lexLt lex_self lex_diff)
section
variable {Q : RV → Prop} {E : Exc → Prop}
end
end DL
namespace DL
open PySem PySem.Spec L2
structure ThreeOk (n three : List Str) (x : Str) : Prop where
  sub : SubOk n three
  len : three.length = 3
  mem : x ∈ n
  out : x ∉ three
theorem ThreeOk.nm {n three : List Str} {x : Str} (h : ThreeOk n three x) (hn : NamesOk n) : NamesOk (three ++ [x]) ∧ ∀ y ∈ three ++ [x], y ∈ n := by
  have nk : ∀ y ∈ three ++ [x], y ∈ n := fun y m => (List.mem_append.mp m).elim (h.sub.2.1 y) fun m => by rw [List.mem_singleton.mp m]; exact h.mem
  refine ⟨⟨fun y m => hn.1 y (nk y m), ?_⟩, nk⟩
  rw [List.nodup_append]
  exact ⟨h.sub.1.2, by simp, fun a ha b hb z => h.out (by rw [← List.mem_singleton.mp hb, ← z]; exact ha)⟩
theorem orDue_none {a b : Option Er} (h : orDue a b = none) : a = none ∧ b = none := by
  cases a with
  | none => exact ⟨rfl, h⟩
  | some e => cases h
section
variable {c : EK → Addr} {CT : Addr} {Q : RV → Prop} {E : Exc → Prop}
end
end DL
namespace DL
open PySem PySem.Spec L2
def rg2K (x y : RV) (P : List D → Prop) : Prop := ∃ i n, [x, y] = [.val (.int i), .val (.int n)] ∧ i ≤ 100000 ∧ -100000 ≤ i ∧ n ≤ 100000 ∧ -100000 ≤ n ∧ P (rangeD i (n - i).toNat)
theorem W_rg2 {fa fb : ED} {env : List (Option SV)} {P : List D → Prop} {E : Exc → Prop} : iRange2 (aCons fa (aCons fb aNil)) env P E = frz fa env (fun x => frz fb env (fun y => rg2K x y P) E) E := rfl
theorem W_rg2k {i n : Int} {P : List D → Prop} : rg2K (.val (.int i)) (.val (.int n)) P = (i ≤ 100000 ∧ -100000 ≤ i ∧ n ≤ 100000 ∧ -100000 ≤ n ∧ P (rangeD i (n - i).toNat)) := by
  unfold rg2K
  apply propext
  constructor
  · rintro ⟨i, n, h, q⟩
    cases h
    exact q
  · intro q
    exact ⟨_, _, rfl, q⟩
theorem flatMap_take {α β : Type} (f : α → List β) (l : List α) (j : Nat) : ((l.take j).flatMap f).Sublist (l.flatMap f) := by
  conv => rhs; rw [← List.take_append_drop j l, List.flatMap_append]
  exact List.sublist_append_left _ _
theorem range_mem {lo : Int} {n : Nat} {d : D} (h : d ∈ rangeD lo n) : ∃ a : Nat, a < n ∧ d = .int (lo + (a : Nat)) := by
  unfold rangeD at h
  obtain ⟨a, m, rfl⟩ := List.mem_map.mp h
  exact ⟨a, List.mem_range.mp m, rfl⟩
def valK (P : D → Prop) : RV → Prop := fun r => match r with | .val d => P d | _ => False
theorem W_valK {P : D → Prop} {d : D} : valK P (.val d) = P d := rfl
theorem W_asgG {b : BD} {fa : ED} {M : DEn} {env : List (Option SV)} : sAsgG b fa M env = frz fa env (valK fun d => b d env M.nx) (M.ex env) := rfl
def xD : D → D := fun d => match d with
  | .int i => .str (Str.ofString "x" ++ Str.ofString (toString i))
  | d => d
end DL
namespace DL
open PySem PySem.Spec L2
section
variable {Q : RV → Prop} {E : Exc → Prop}
end
end DL
namespace L2N
open PySem PySem.Spec PyProof.Rows L2
end L2N
namespace DL
open PySem PySem.Spec L2
section
variable {X : Cx} {g : G} {W : WX} {p pos pos' : Pos} {x : Str} {C : Addr}
end
end DL
namespace DL
open PySem PySem.Spec L2
section
variable {c : EK → Addr} {CT : Addr} {Q : RV → Prop} {E : Exc → Prop}
end
def isSQ (K : PySem.W.Frag) (C a : Addr) : QC := fun rs Q => ErrC K C ∧ isPQ K C a rs Q
section
variable {X : Cx} {g : G} {W : WX} {ca : Nat} {fs : AD} {z : Exc} {d : Option Addr} {a : Addr} {oe : Obj} {e1 e2 : Expr} {p pos : Pos}
theorem W_isS {K : PySem.W.Frag} {C a : Addr} {c : D} {Q : RV → Prop} : isSQ K C a [.val (.cls a), .val c] Q = (ErrC K C ∧ isPK K C c Q) := by
  show (ErrC K C ∧ isPQ K C a [.val (.cls a), .val c] Q) = _
  rw [W_isPK]
end
end DL
namespace DL
open PySem PySem.Spec L2
def bothL (n : List Str) (ls : List (List Str)) : List (List Str) := ls ++ ls.map (partS true n)
section
variable {n : List Str} {ls : List (List Str)}
end
end DL
namespace DL
open PySem PySem.Spec L2
section
variable {n : List Str} {ls : List (List Str)}
end
end DL
namespace DL
open PySem PySem.Spec L2
section
variable {n : List Str} {ls : List (List Str)}
end
end DL
namespace DL
open PySem PySem.Spec L2
section
variable {c : EK → Addr} {CT : Addr} {Q : RV → Prop} {E : Exc → Prop}
end
def headD : D → D := fun d => match d with
  | .tup (x :: _) => x
  | d => d
theorem PlOk.few {n : List Str} {p : List (List Str)} (h : PlOk n p) (ln : n.length ≤ 12) : p.length ≤ 12 := by
  have h1 := h.flat.length_eq
  have h2 := flat_two (B := p) (fun b m => (h.sub b m).2)
  omega
end DL
namespace DL
open PySem PySem.Spec L2
section
variable {n : List Str} {ls : List (List Str)}
structure Grown (n m : List Str) (nm : Str) : Prop where
  nn : SetOk n
  mm : SetOk m
  mem : ∀ x, x ∈ m ↔ x ∈ n ∨ x = nm
  nw : nm ∉ n
  len : m.length = n.length + 1
theorem grown_of {nm : Str} (hn : SetOk n) (h : isNameS nm = true) (nw : nm ∉ n) : Grown n (sortS (n ++ [nm])) nm := by
  have nk : NamesOk (n ++ [nm]) := ⟨fun t m => (List.mem_append.mp m).elim (hn.1.1 t) fun m => by rw [List.mem_singleton.mp m]; exact h, by
    rw [List.nodup_append]
    exact ⟨hn.1.2, by simp, fun x hx y hy z => nw (by rw [← List.mem_singleton.mp hy, ← z]; exact hx)⟩⟩
  exact ⟨hn, ⟨sortS_ok nk, sortS_id (sortS_pw _)⟩, fun x => by rw [sortS_mem, List.mem_append, List.mem_singleton], nw, by rw [sortS_len, List.length_append]; rfl⟩
variable {m : List Str} {nm : Str}
theorem Grown.up (g : Grown n m nm) {s : List Str} (h : SubOk n s) : SubOk m s := ⟨h.1, fun x mx => (g.mem x).mpr (.inl (h.2.1 x mx)), h.2.2⟩
theorem Grown.names (g : Grown n m nm) : SubOk m n := g.up (sub_self g.nn)
theorem Grown.one (g : Grown n m nm) : SubOk m [nm] := sub_of (List.singleton_sublist.mpr ((g.mem nm).mpr (.inr rfl))) g.mm
structure IsSp (n : List Str) (ls W : List (List Str)) : Prop where
  sub : ∀ w ∈ W, SubOk n w ∧ w ≠ []
  len : 2 ≤ W.length
  few : W.length ≤ 12
  nd : W.Nodup
  cover : ∀ x ∈ n, ∃ w ∈ W, x ∈ w
  apart : ∀ a ∈ W, ∀ b ∈ W, ∀ x, x ∈ a → x ∈ b → a = b
  edge : ∀ w ∈ W, (∃ x ∈ n, w = [x]) ∨ (∃ x ∈ n, w = partS true n [x]) ∨ w ∈ bothL n ls
  sep : ∀ s ∈ ls, ∃ w ∈ W, (∀ x ∈ s, x ∈ w) ∨ ∀ x ∈ n, x ∉ s → x ∈ w
theorem IsSp.out {W : List (List Str)} (h : IsSp n ls W) {w : List Str} (mw : w ∈ W) : ∃ x ∈ n, x ∉ w := by
  obtain ⟨v, mv, ne⟩ : ∃ v ∈ W, v ≠ w := Classical.byContradiction fun no => by
    have : ∀ v ∈ W, v ∈ [w] := fun v mv => List.mem_singleton.mpr (Classical.byContradiction fun z => no ⟨v, mv, z⟩)
    have := h.nd.length_le_of_subset this
    have := h.len
    simp at *
    omega
  obtain ⟨sv, v0⟩ := h.sub v mv
  obtain ⟨x, mx⟩ := List.exists_mem_of_ne_nil v v0
  exact ⟨x, sv.2.1 x mx, fun z => ne (h.apart v mv w mw x mx z)⟩
theorem IsSp.flat {W : List (List Str)} (h : IsSp n ls W) (hn : SetOk n) : W.flatten.Perm n := by
  refine perm_of_mem ?_ hn.1.2 fun x => ?_
  · rw [List.nodup_iff_pairwise_ne, List.pairwise_flatten]
    refine ⟨fun w mw => List.nodup_iff_pairwise_ne.mp (h.sub w mw).1.1.2, ?_⟩
    refine (List.nodup_iff_pairwise_ne.mp h.nd).imp_of_mem fun {a b} ha hb ne x hx y hy z => ne (h.apart a ha b hb x hx (by rw [z]; exact hy))
  · rw [List.mem_flatten]
    exact ⟨fun ⟨w, mw, mx⟩ => (h.sub w mw).1.2.1 x mx, fun mx => h.cover x mx⟩
end
end DL
namespace DL
open PySem PySem.Spec L2
section
variable {n m : List Str} {us : List (List Str)} {nm : Str}
end
end DL
namespace DL
open PySem PySem.Spec L2
inductive Sp
  | start
  | place (p : List (List Str))
  | tie (t : List Str)
def Sp.d (n : List Str) : Sp → D
  | .start => .tup [.str "start", tupS n]
  | .place p => .tup [.str "place", tupsD p]
  | .tie t => .tup [.str "tie", tupS t]
section
variable {n m : List Str} {ls us : List (List Str)} {nm : Str}
end
end DL
namespace DL
open PySem PySem.Spec L2
section
variable {n m : List Str} {ls us : List (List Str)} {nm : Str}
end
section
variable {c : EK → Addr} {CT : Addr} {Q : RV → Prop} {E : Exc → Prop}
end
end DL
namespace DL
open PySem PySem.Spec L2
section
variable {n m : List Str} {ls us : List (List Str)} {nm : Str}
theorem tups_of_inj {a b : List (List Str)} (h : tupsD a = tupsD b) : a = b := by
  injection h with h
  exact tups_inj.mp h
theorem tupS_inj {a b : List Str} (h : tupS a = tupS b) : a = b := by
  injection h with h
  have := congrArg strsD h
  rwa [strsD_map, strsD_map] at this
theorem Sp.inj {a b : Sp} (h : Sp.d n a = Sp.d n b) : a = b := by
  have two : ∀ {w v : Str} {x y : D}, D.tup [.str w, x] = .tup [.str v, y] → w = v ∧ x = y := fun {w v x y} h => by
    injection h with h
    injection h with h1 h2
    injection h1 with h1
    injection h2 with h2
    exact ⟨h1, h2⟩
  cases a <;> cases b
  · rfl
  · exact absurd (two h).1 (by decide)
  · exact absurd (two h).1 (by decide)
  · exact absurd (two h).1 (by decide)
  · rw [tups_of_inj (two h).2]
  · exact absurd (two h).1 (by decide)
  · exact absurd (two h).1 (by decide)
  · exact absurd (two h).1 (by decide)
  · rw [tupS_inj (two h).2]
theorem Grown.back (g : Grown n m nm) : sortS (n ++ [nm]) = m := by
  have g2 := grown_of g.nn (g.one.1.1 nm (List.mem_singleton.mpr rfl)) g.nw
  refine sub_ext (n := m) ⟨g2.mm.1, fun x mx => (g.mem x).mpr ((g2.mem x).mp mx), g2.mm.2⟩ (sub_self g.mm) fun x mx => ?_
  rw [g2.mem, g.mem]
end
end DL
namespace DL
open PySem PySem.Spec L2
end DL
namespace DL
open PySem PySem.Spec PyProof.Rows
open L2 hiding St
section
variable {X : Cx} {g : G} {W : WX} {ca cb k n : Nat} {f C : Addr} {fd : FuncData} {ps : List Str} {fn : FD} {fa fb : ED} {p pos : Pos} {a b : Expr}
end
end DL
namespace DL
open PySem PySem.Spec L2
section
variable {n m : List Str} {ls us : List (List Str)} {nm : Str}
end
end DL
namespace DL
open PySem PySem.Spec L2
section
variable {X : Cx} {g : G} {W : WX} {T T' ca cb : Nat} {F H F' H' : Hp} {env env' : En} {σ σ' : St} {xs : List D} {a : Addr} {vs : List V}
def G.hold (g : G) (a : Addr) (vs : List V) : G := ⟨g.K, g.st, g.F0, upd g.H0 a (.lst vs)⟩
theorem hold_grow {st : Addr} {F0 H0 : Hp} {o : HO} (w : Grow st F0 (upd H0 a o) F' H') (n0 : H0 a = none) : Grow st F0 H0 F' H' :=
  ⟨w.ff, w.fh, fun b x n h => w.hh b x n (by rw [upd_ne fun z => by rw [z, n0] at h; cases h]; exact h), fun b f h => w.nf b f (by
    by_cases z : b = a
    · rw [z, upd_same]; exact fun q => nomatch q
    · rw [upd_ne z]; exact h), w.sf⟩
theorem Ok.hold {k : Nat} (ok : Ok g T F env σ H) (e : env[k]? = some (some (.own xs))) (hs : σ[k]? = some (some (.ref a))) (hv : H a = some (.lst vs)) (o : OwnAt g g.H0 F H a xs) : Ok (g.hold a vs) T F (env.set k (some (.val (.cls a)))) σ H := by
  have lk : k < env.length := (List.getElem?_eq_some_iff.mp e).1
  have get : ∀ {i : Nat} {s : SV}, (env.set k (some (.val (.cls a))))[i]? = some (some s) → (i = k ∧ s = .val (.cls a)) ∨ (i ≠ k ∧ env[i]? = some (some s)) := fun {i s} h => by
    by_cases z : i = k
    · subst z
      rw [List.getElem?_set_self lk] at h
      injection h with h
      injection h with h
      exact .inl ⟨rfl, h.symm⟩
    · rw [List.getElem?_set_ne (fun q => z q.symm)] at h
      exact .inr ⟨z, h⟩
  have other : ∀ {i : Nat} {ys : List D} {b : Addr}, i ≠ k → env[i]? = some (some (.own ys)) → σ[i]? = some (some (.ref b)) → b ≠ a := fun {i ys b} ne h1 h2 z => ok.dis i k ys xs ne h1 e (by rw [h2, hs, z])
  refine ⟨⟨ok.grow.ff, ok.grow.fh, fun b x n h => ?_, fun b f h => ?_, ok.grow.sf⟩, ⟨ok.sto.free, ok.sto.at'⟩, by rw [List.length_set]; exact ok.len, fun i d h => ?_, fun i h => ?_, fun i ys h => ?_, fun i j ys zs ne h1 h2 => ?_⟩
  · by_cases z : b = a
    · subst z
      rw [show (g.hold b vs).H0 b = some (.lst vs) from upd_same] at h
      cases h
      exact hv
    · rw [show (g.hold a vs).H0 b = g.H0 b from upd_ne z] at h
      exact ok.grow.hh b x n h
  · by_cases z : b = a
    · rw [z]; exact o.nf
    · rw [show (g.hold a vs).H0 b = g.H0 b from upd_ne z] at h
      exact ok.grow.nf b f h
  · rcases get h with ⟨rfl, z⟩ | ⟨_, z⟩
    · cases z
      exact ⟨_, hs, by simp only [Rep]⟩
    · exact ok.val i d z
  · rcases get h with ⟨_, z⟩ | ⟨_, z⟩
    · cases z
    · exact ok.stor i z
  · rcases get h with ⟨_, z⟩ | ⟨ne, z⟩
    · cases z
    · obtain ⟨b, h1, h2⟩ := ok.own i ys z
      exact ⟨b, h1, h2.ns, (upd_ne (other ne z h1)).trans h2.new, h2.nf, h2.at'⟩
  · rcases get h1 with ⟨_, z⟩ | ⟨_, z1⟩
    · cases z
    · rcases get h2 with ⟨_, z⟩ | ⟨_, z2⟩
      · cases z
      · exact ok.dis i j ys zs ne z1 z2
theorem Ok.free {k : Nat} (ok : Ok (g.hold a vs) T F env σ H) (e : env[k]? = some (some (.val (.cls a)))) (n0 : g.H0 a = none) (f0 : g.F0 a = none) (ns : a ≠ g.st) (hr : RepL g.K F xs vs) : Ok g T F (env.set k (some (.own xs))) σ H := by
  have lk : k < env.length := (List.getElem?_eq_some_iff.mp e).1
  have hs : σ[k]? = some (some (.ref a)) := by
    obtain ⟨v, h1, h2⟩ := ok.val k _ e
    simp only [Rep] at h2
    rw [h1, h2]
  have get : ∀ {i : Nat} {s : SV}, (env.set k (some (.own xs)))[i]? = some (some s) → (i = k ∧ s = .own xs) ∨ (i ≠ k ∧ env[i]? = some (some s)) := fun {i s} h => by
    by_cases z : i = k
    · subst z
      rw [List.getElem?_set_self lk] at h
      injection h with h
      injection h with h
      exact .inl ⟨rfl, h.symm⟩
    · rw [List.getElem?_set_ne (fun q => z q.symm)] at h
      exact .inr ⟨z, h⟩
  have hv : H a = some (.lst vs) := ok.grow.hh a _ ns upd_same
  have own : ∀ {i : Nat} {ys : List D}, env[i]? = some (some (.own ys)) → ∃ b, σ[i]? = some (some (.ref b)) ∧ OwnAt g g.H0 F H b ys ∧ b ≠ a := fun {i ys} h => by
    obtain ⟨b, h1, h2⟩ := ok.own i ys h
    have ne : b ≠ a := fun z => by
      have := h2.new
      rw [z, show (g.hold a vs).H0 a = some (.lst vs) from upd_same] at this
      cases this
    exact ⟨b, h1, ⟨h2.ns, (upd_ne ne).symm.trans h2.new, h2.nf, h2.at'⟩, ne⟩
  refine ⟨hold_grow ok.grow n0, ⟨ok.sto.free, ok.sto.at'⟩, by rw [List.length_set]; exact ok.len, fun i d h => ?_, fun i h => ?_, fun i ys h => ?_, fun i j ys zs ne h1 h2 => ?_⟩
  · rcases get h with ⟨_, z⟩ | ⟨_, z⟩
    · cases z
    · exact ok.val i d z
  · rcases get h with ⟨_, z⟩ | ⟨_, z⟩
    · cases z
    · exact ok.stor i z
  · rcases get h with ⟨rfl, z⟩ | ⟨_, z⟩
    · cases z
      exact ⟨a, hs, ns, n0, ok.grow.nf a f0 (by rw [show (g.hold a vs).H0 a = some (.lst vs) from upd_same]; exact fun q => nomatch q), vs, hv, hr⟩
    · obtain ⟨b, h1, h2, _⟩ := own z
      exact ⟨b, h1, h2⟩
  · rcases get h1 with ⟨rfl, z1⟩ | ⟨n1, z1⟩
    · rcases get h2 with ⟨rfl, z2⟩ | ⟨n2, z2⟩
      · exact absurd rfl ne
      · obtain ⟨b, h3, _, h4⟩ := own z2
        rw [hs, h3]
        intro q
        injection q with q
        injection q with q
        injection q with q
        exact h4 q.symm
    · rcases get h2 with ⟨rfl, z2⟩ | ⟨n2, z2⟩
      · obtain ⟨b, h3, _, h4⟩ := own z1
        rw [hs, h3]
        intro q
        injection q with q
        injection q with q
        injection q with q
        exact h4 q
      · exact ok.dis i j ys zs ne z1 z2
def backE (k : Nat) (a : Addr) (xs : List D) (A : DEn) : DEn := ⟨fun e => e[k]? = some (some (.val (.cls a))) ∧ A.nx (e.set k (some (.own xs))), A.rt, fun _ => False, fun _ => False, fun e x => e[k]? = some (some (.val (.cls a))) ∧ A.ex (e.set k (some (.own xs))) x⟩
theorem backE.le {k : Nat} {A B : DEn} (l : A.le B) : (backE k a xs A).le (backE k a xs B) := ⟨fun e ⟨h, q⟩ => ⟨h, l.nx _ q⟩, l.rt, fun _ z => z, fun _ z => z, fun e x ⟨h, q⟩ => ⟨h, l.ex _ _ q⟩⟩
end
end DL
namespace DL
open PySem PySem.Spec L2
def insAt (lots : List (List Str)) (x : Str) (i : Nat) : List (List Str) := lots.set i ((lots[i]?.getD []) ++ [x])
def placL (lots : List (List Str)) (x : Str) (many : Nat) : List (List (List Str)) := (List.range lots.length).map (insAt lots x) ++ (if lots.length = many then [] else [lots ++ [[x]]])
def divRows (many : Nat) : List Str → List (List (List Str)) → List (List (List Str))
  | [], rows => rows
  | x :: l, rows => divRows many l (rows.flatMap fun r => placL r x many)
def divL (n : List Str) (many : Nat) : List (List (List Str)) := sortP ((divRows many n [[]]).filter fun r => decide (r.length = many))
def HeadLt (a b : List Str) : Prop := ∃ x r y s, a = x :: r ∧ b = y :: s ∧ leS x y = true ∧ x ≠ y
structure LotsOk (m : List Str) (lots : List (List Str)) : Prop where
  sub : ∀ l ∈ lots, l ≠ [] ∧ l.Sublist m
  flat : lots.flatten.Perm m
  ord : lots.Pairwise HeadLt
theorem LotsOk.nil : LotsOk [] [] := ⟨(fun _ m => nomatch m), List.Perm.refl _, List.Pairwise.nil⟩
theorem flat_set : ∀ {lots : List (List Str)} {i : Nat} {l : List Str} {x : Str}, lots[i]? = some l → (lots.set i (l ++ [x])).flatten.Perm (lots.flatten ++ [x])
  | [], i, l, x, h => by simp at h
  | a :: lots, 0, l, x, h => by
    simp at h
    subst h
    rw [List.set_cons_zero, List.flatten_cons, List.flatten_cons, List.append_assoc, List.append_assoc]
    exact (List.perm_append_comm).append_left _
  | a :: lots, i + 1, l, x, h => by
    rw [List.set_cons_succ, List.flatten_cons, List.flatten_cons, List.append_assoc]
    exact (flat_set (by simpa using h)).append_left _
theorem head_set : ∀ {lots : List (List Str)} {i : Nat} {l : List Str} {x : Str}, lots[i]? = some l → l ≠ [] → lots.Pairwise HeadLt → (lots.set i (l ++ [x])).Pairwise HeadLt
  | [], i, l, x, h, _, _ => by simp at h
  | a :: lots, 0, l, x, h, h0, p => by
    simp at h
    subst h
    rw [List.set_cons_zero]
    obtain ⟨p1, p2⟩ := List.pairwise_cons.mp p
    refine List.pairwise_cons.mpr ⟨fun b mb => ?_, p2⟩
    obtain ⟨u, r, y, s, rfl, rfl, h1, h2⟩ := p1 b mb
    exact ⟨u, r ++ [x], y, s, rfl, rfl, h1, h2⟩
  | a :: lots, i + 1, l, x, h, h0, p => by
    rw [List.set_cons_succ]
    obtain ⟨p1, p2⟩ := List.pairwise_cons.mp p
    have h' : lots[i]? = some l := by simpa using h
    refine List.pairwise_cons.mpr ⟨fun b mb => ?_, head_set h' h0 p2⟩
    rcases List.mem_or_eq_of_mem_set mb with mb | rfl
    · exact p1 b mb
    · obtain ⟨u, r, y, s, rfl, rfl, h1, h2⟩ := p1 l (List.mem_of_getElem? h')
      exact ⟨u, r, y, s ++ [x], rfl, rfl, h1, h2⟩
theorem placL_mem {lots r : List (List Str)} {x : Str} {many : Nat} : r ∈ placL lots x many ↔ (∃ i l, lots[i]? = some l ∧ r = lots.set i (l ++ [x])) ∨ (lots.length ≠ many ∧ r = lots ++ [[x]]) := by
  unfold placL
  rw [List.mem_append, List.mem_map]
  constructor
  · rintro (⟨i, hi, rfl⟩ | h)
    · have lt := List.mem_range.mp hi
      exact .inl ⟨i, lots[i], List.getElem?_eq_getElem lt, by unfold insAt; rw [List.getElem?_eq_getElem lt]; rfl⟩
    · split at h
      · cases h
      · rename_i c
        exact .inr ⟨c, List.mem_singleton.mp h⟩
  · rintro (⟨i, l, h, rfl⟩ | ⟨c, rfl⟩)
    · exact .inl ⟨i, List.mem_range.mpr (List.getElem?_eq_some_iff.mp h).1, by unfold insAt; rw [h]; rfl⟩
    · exact .inr (by rw [if_neg c]; exact List.mem_singleton.mpr rfl)
theorem LotsOk.step {m : List Str} {x : Str} {lots r : List (List Str)} {many : Nat} (h : LotsOk m lots) (hs : ∀ y ∈ m, leS y x = true ∧ y ≠ x) (mr : r ∈ placL lots x many) : LotsOk (m ++ [x]) r := by
  rcases placL_mem.mp mr with ⟨i, l, e, rfl⟩ | ⟨_, rfl⟩
  · have ml := List.mem_of_getElem? e
    obtain ⟨l0, l1⟩ := h.sub l ml
    refine ⟨fun k mk => ?_, (flat_set e).trans (h.flat.append_right _), head_set e l0 h.ord⟩
    rcases List.mem_or_eq_of_mem_set mk with mk | rfl
    · exact ⟨(h.sub k mk).1, (h.sub k mk).2.trans (List.sublist_append_left _ _)⟩
    · exact ⟨by simp, l1.append (List.Sublist.refl _)⟩
  · refine ⟨fun k mk => ?_, ?_, ?_⟩
    · rcases List.mem_append.mp mk with mk | mk
      · exact ⟨(h.sub k mk).1, (h.sub k mk).2.trans (List.sublist_append_left _ _)⟩
      · rw [List.mem_singleton.mp mk]
        exact ⟨by simp, List.sublist_append_right _ _⟩
    · rw [List.flatten_append]
      exact h.flat.append (by simp)
    · rw [List.pairwise_append]
      refine ⟨h.ord, List.pairwise_singleton _ _, fun a ma b mb => ?_⟩
      rw [List.mem_singleton.mp mb]
      obtain ⟨a0, a1⟩ := h.sub a ma
      match a, a0, a1 with
      | y :: t, _, a1 =>
        have := hs y (a1.subset List.mem_cons_self)
        exact ⟨y, t, x, [], rfl, rfl, this.1, this.2⟩
theorem LotsOk.len {m : List Str} {x : Str} {lots r : List (List Str)} {many : Nat} (h : lots.length ≤ many) (mr : r ∈ placL lots x many) : r.length ≤ many := by
  rcases placL_mem.mp mr with ⟨i, l, e, rfl⟩ | ⟨c, rfl⟩
  · rw [List.length_set]; exact h
  · rw [List.length_append]
    simp
    omega
def strikeL (x : Str) (r : List (List Str)) : List (List Str) := (r.map fun l => l.filter fun y => decide (y ≠ x)).filter fun l => !l.isEmpty
theorem strike_place {m : List Str} {x : Str} {lots r : List (List Str)} {many : Nat} (h : LotsOk m lots) (nx : x ∉ m) (mr : r ∈ placL lots x many) : strikeL x r = lots := by
  have keep : ∀ l ∈ lots, l.filter (fun y => decide (y ≠ x)) = l := fun l ml => List.filter_eq_self.mpr fun y my => decide_eq_true fun z => nx (by rw [← z]; exact (h.sub l ml).2.subset my)
  have km : lots.map (fun l => l.filter fun y => decide (y ≠ x)) = lots := by
    conv => rhs; rw [← List.map_id lots]
    exact List.map_congr_left fun l ml => keep l ml
  have ne : lots.filter (fun l => !l.isEmpty) = lots := List.filter_eq_self.mpr fun l ml => by
    have := (h.sub l ml).1
    cases l with
    | nil => exact absurd rfl this
    | cons a b => rfl
  unfold strikeL
  rcases placL_mem.mp mr with ⟨i, l, e, rfl⟩ | ⟨_, rfl⟩
  · have : (lots.set i (l ++ [x])).map (fun l => l.filter fun y => decide (y ≠ x)) = lots := by
      rw [List.map_set, km, List.filter_append, keep l (List.mem_of_getElem? e)]
      have : [x].filter (fun y => decide (y ≠ x)) = [] := by simp
      rw [this, List.append_nil]
      exact List.ext_getElem? fun j => by
        by_cases c : i = j
        · subst c
          rw [List.getElem?_set_self (List.getElem?_eq_some_iff.mp e).1, e]
        · rw [List.getElem?_set_ne c]
    rw [this, ne]
  · rw [List.map_append, km, List.filter_append, ne]
    simp
theorem placL_nodup {m : List Str} {x : Str} {lots : List (List Str)} {many : Nat} (h : LotsOk m lots) (nx : x ∉ m) : (placL lots x many).Nodup := by
  have at' : ∀ i, i < lots.length → ∀ j, j < lots.length → insAt lots x i = insAt lots x j → i = j := fun i hi j hj e => Classical.byContradiction fun ne => by
    have h1 : (insAt lots x i)[i]? = some ((lots[i]?.getD []) ++ [x]) := by unfold insAt; exact List.getElem?_set_self hi
    have h2 : (insAt lots x j)[i]? = lots[i]? := by unfold insAt; exact List.getElem?_set_ne fun z => ne z.symm
    rw [e, h2, List.getElem?_eq_getElem hi] at h1
    have h3 : lots[i] = ((some lots[i]).getD []) ++ [x] := by injection h1
    have := congrArg List.length h3
    simp at this
  unfold placL
  rw [List.nodup_append]
  refine ⟨?_, ?_, fun a ha b hb z => ?_⟩
  · rw [List.nodup_iff_pairwise_ne, List.pairwise_map]
    refine (List.nodup_iff_pairwise_ne.mp List.nodup_range).imp_of_mem fun {i j} hi hj ne z => ne (at' i (List.mem_range.mp hi) j (List.mem_range.mp hj) z)
  · split <;> simp
  · obtain ⟨i, _, rfl⟩ := List.mem_map.mp ha
    split at hb
    · cases hb
    · rw [List.mem_singleton.mp hb] at z
      have := congrArg List.length z
      unfold insAt at this
      rw [List.length_set, List.length_append] at this
      simp at this
theorem flatMap_nodup {α β : Type} {f : α → List β} : ∀ {l : List α}, l.Nodup → (∀ a ∈ l, (f a).Nodup) → (∀ a ∈ l, ∀ b ∈ l, a ≠ b → ∀ x ∈ f a, x ∉ f b) → (l.flatMap f).Nodup
  | [], _, _, _ => List.nodup_nil
  | a :: l, nd, h1, h2 => by
    obtain ⟨n1, n2⟩ := List.nodup_cons.mp nd
    rw [List.flatMap_cons, List.nodup_append]
    refine ⟨h1 a List.mem_cons_self, flatMap_nodup n2 (fun b m => h1 b (List.mem_cons_of_mem _ m)) (fun b mb c mc => h2 b (List.mem_cons_of_mem _ mb) c (List.mem_cons_of_mem _ mc)), fun x mx y my z => ?_⟩
    obtain ⟨b, mb, my⟩ := List.mem_flatMap.mp my
    exact h2 a List.mem_cons_self b (List.mem_cons_of_mem _ mb) (fun q => n1 (by rw [q]; exact mb)) x mx (by rw [z]; exact my)
def stir : Nat → Nat → Nat
  | 0, j => if j = 0 then 1 else 0
  | i + 1, j => j * stir i j + (if j = 0 then 0 else stir i (j - 1))
def cnt (R : List (List (List Str))) (j : Nat) : Nat := (R.filter fun r => decide (r.length = j)).length
theorem cnt_cons (r : List (List Str)) (R : List (List (List Str))) (j : Nat) : cnt (r :: R) j = (if r.length = j then 1 else 0) + cnt R j := by
  unfold cnt
  rw [List.filter_cons]
  by_cases c : r.length = j
  · rw [if_pos (decide_eq_true c), if_pos c, List.length_cons]; omega
  · rw [if_neg (by simpa using c), if_neg c]; omega
theorem cnt_append (R S : List (List (List Str))) (j : Nat) : cnt (R ++ S) j = cnt R j + cnt S j := by
  unfold cnt
  rw [List.filter_append, List.length_append]
theorem cnt_place (r : List (List Str)) (x : Str) (many j : Nat) : cnt (placL r x many) j = (if r.length = j then j else 0) + (if r.length + 1 = j ∧ r.length ≠ many then 1 else 0) := by
  unfold placL
  rw [cnt_append]
  have h1 : cnt ((List.range r.length).map (insAt r x)) j = if r.length = j then j else 0 := by
    unfold cnt
    have all : ∀ s ∈ (List.range r.length).map (insAt r x), s.length = r.length := fun s ms => by
      obtain ⟨i, _, rfl⟩ := List.mem_map.mp ms
      unfold insAt
      rw [List.length_set]
    by_cases c : r.length = j
    · rw [if_pos c, List.filter_eq_self.mpr fun s ms => decide_eq_true ((all s ms).trans c), List.length_map, List.length_range, c]
    · rw [if_neg c, List.filter_eq_nil_iff.mpr fun s ms => by rw [all s ms]; simpa using c]
      rfl
  rw [h1]
  congr 1
  split
  · rename_i c
    rw [if_neg (fun z => z.2 c)]
    rfl
  · rename_i c
    by_cases d : r.length + 1 = j
    · rw [if_pos ⟨d, c⟩, cnt_cons, if_pos (by rw [List.length_append]; simpa using d)]
      rfl
    · rw [if_neg (fun z => d z.1), cnt_cons, if_neg (by rw [List.length_append]; simpa using d)]
      rfl
theorem cnt_step (x : Str) (many : Nat) : ∀ (R : List (List (List Str))) (j : Nat), (∀ r ∈ R, r.length ≤ many) → j ≤ many → cnt (R.flatMap fun r => placL r x many) j = j * cnt R j + (if j = 0 then 0 else cnt R (j - 1))
  | [], j, _, _ => by simp [cnt]
  | r :: R, j, h, hj => by
    rw [List.flatMap_cons, cnt_append, cnt_place, cnt_step x many R j (fun s m => h s (List.mem_cons_of_mem _ m)) hj, cnt_cons, cnt_cons]
    have hr := h r List.mem_cons_self
    by_cases j0 : j = 0
    · subst j0
      simp
    · rw [if_neg j0, if_neg j0]
      by_cases c : r.length = j
      · rw [if_pos c, if_pos c, if_neg (by omega), if_neg (by omega), Nat.mul_add, Nat.mul_one]
        omega
      · rw [if_neg c, if_neg c]
        by_cases d : r.length + 1 = j
        · rw [if_pos ⟨d, by omega⟩, if_pos (by omega), Nat.zero_add, Nat.zero_add]
          omega
        · rw [if_neg (fun z => d z.1), if_neg (by omega), Nat.zero_add, Nat.zero_add, Nat.zero_add]
structure RowsOk (many : Nat) (m : List Str) (R : List (List (List Str))) : Prop where
  ok : ∀ r ∈ R, LotsOk m r ∧ r.length ≤ many
  nd : R.Nodup
  cnt : ∀ j, j ≤ many → cnt R j = stir m.length j
theorem RowsOk.start (many : Nat) : RowsOk many [] [[]] := ⟨fun r mr => by rw [List.mem_singleton.mp mr]; exact ⟨.nil, Nat.zero_le _⟩, by simp, fun j _ => by
  rw [cnt_cons]
  show _ = if j = 0 then 1 else 0
  by_cases c : j = 0
  · subst c; rfl
  · rw [if_neg (fun z => c z.symm), if_neg c]; rfl⟩
theorem RowsOk.step {many : Nat} {m : List Str} {x : Str} {R : List (List (List Str))} (h : RowsOk many m R) (hs : ∀ y ∈ m, leS y x = true ∧ y ≠ x) : RowsOk many (m ++ [x]) (R.flatMap fun r => placL r x many) := by
  have nx : x ∉ m := fun z => (hs x z).2 rfl
  refine ⟨fun r mr => ?_, flatMap_nodup h.nd (fun r mr => placL_nodup (h.ok r mr).1 nx) (fun a ma b mb ne r h1 h2 => ne ?_), fun j hj => ?_⟩
  · obtain ⟨s, ms, mr⟩ := List.mem_flatMap.mp mr
    exact ⟨(h.ok s ms).1.step hs mr, LotsOk.len (m := m) (h.ok s ms).2 mr⟩
  · rw [← strike_place (h.ok a ma).1 nx h1, strike_place (h.ok b mb).1 nx h2]
  · rw [cnt_step x many R j (fun r mr => (h.ok r mr).2) hj, h.cnt j hj, List.length_append]
    show _ = j * stir m.length j + (if j = 0 then 0 else stir m.length (j - 1))
    by_cases c : j = 0
    · rw [if_pos c, if_pos c]
    · rw [if_neg c, if_neg c, h.cnt (j - 1) (by omega)]
theorem rows_all {many : Nat} : ∀ {l m : List Str} {R : List (List (List Str))}, RowsOk many m R → (m ++ l).Pairwise (fun a b => leS a b = true) → (m ++ l).Nodup → RowsOk many (m ++ l) (divRows many l R)
  | [], m, R, h, _, _ => by rw [List.append_nil]; exact h
  | x :: l, m, R, h, pw, nd => by
    have e : m ++ x :: l = (m ++ [x]) ++ l := by rw [List.append_assoc]; rfl
    have hs : ∀ y ∈ m, leS y x = true ∧ y ≠ x := fun y my => ⟨(List.pairwise_append.mp pw).2.2 y my x List.mem_cons_self, fun z => (List.nodup_append.mp nd).2.2 y my x List.mem_cons_self z⟩
    rw [e] at pw nd ⊢
    exact rows_all (h.step hs) pw nd
theorem div_rows {n : List Str} (hn : SetOk n) (many : Nat) : RowsOk many n (divRows many n [[]]) := by
  have := rows_all (l := n) (RowsOk.start many) (by rw [List.nil_append]; exact hn.pw) (by rw [List.nil_append]; exact hn.1.2)
  rwa [List.nil_append] at this
theorem divL_mem {n : List Str} (hn : SetOk n) {many : Nat} {r : List (List Str)} (h : r ∈ divL n many) : LotsOk n r ∧ r.length = many := by
  unfold divL at h
  rw [sortP_mem, List.mem_filter] at h
  exact ⟨((div_rows hn many).ok r h.1).1, of_decide_eq_true h.2⟩
theorem divL_len {n : List Str} (hn : SetOk n) (many : Nat) : (divL n many).length = stir n.length many := by
  unfold divL
  rw [(sortP_perm _).length_eq]
  exact (div_rows hn many).cnt many (Nat.le_refl _)
theorem divL_nodup {n : List Str} (hn : SetOk n) (many : Nat) : (divL n many).Nodup := (sortP_perm _).nodup_iff.mpr ((div_rows hn many).nd.sublist List.filter_sublist)
theorem divL_pw (n : List Str) (many : Nat) : (divL n many).Pairwise fun a b => leP a b = true := sortP_pw _
end DL
namespace LO
open PySem PySem.Spec PyProof.Rows L2 L2H HotX
section
variable {prog : Program} {w : World} {A : Around} {E : Value → Shared → Prop} {s : Shared}
theorem stop_made {α : Type} {x1 : Addr} {Q : α → Shared → Prop} (hot : HotAt A x1 s.heap)
    (k : ∀ (a : Addr) (h : Heap), (∃ o, h.get? a = some o ∧ o.cls = .type "StopIteration") → (∀ b o, s.heap.get? b = some o → h.get? b = some o) → E (.ref a) { s with heap := h }) :
    wpAny (model prog w) A (newExc (.type "StopIteration") [] >>= fun e => (raiseNew e : Sem α)) Q E s := by
  obtain ⟨hh, o1, fs, g1, g2, g3⟩ := hot
  have p1 : ∀ {ob : Obj} {b : Addr} {o : Obj}, s.heap.get? b = some o → (s.heap.push ob).get? b = some o := fun e => Heap.get?_push_of_some _ e
  refine wpAny_bind ?_
  unfold newExc newTuple
  refine wpAny_bind (wpAny_newObj_type ?_ (by size_fits))
  refine wpAny_bind (m := firstArgMember _ _) (wpAny_of_eq (a := Value.none) (by first | rfl | (simp only [firstArgMember]; rfl)) (wpAny_newObj_type ?_ (by size_fits)))
  have two : ∀ {oa ob : Obj} {b : Addr} {o : Obj}, s.heap.get? b = some o → ((s.heap.push oa).push ob).get? b = some o := fun e => Heap.get?_push_of_some _ (p1 e)
  refine raiseNew_hot ⟨hh, o1, fs, two g1, g2, g3⟩ (Nat.ne_of_lt (Heap.lt_size (p1 g1))) (Heap.get?_push_size _ rfl) rfl (by first | (simp; done) | (simp; omega) | (simp only [Array.size_append]; simp; omega)) (k _ _ ⟨_, Heap.get?_update_self _ (Heap.get?_push_size _ rfl) rfl, rfl⟩ fun b o e => ?_)
  rw [Heap.get?_update_other _ _ (Nat.ne_of_gt (Heap.lt_size (p1 e)))]
  exact two e
end
section
variable {X : Cx} {pins : List (Addr × Obj)} {σ : L2.St} {H : Hp} {s : Shared} {E : Value → Shared → Prop} {it a : Addr} {i : Nat} {vs : List V} {Q : Option Value → Shared → Prop}
theorem next_some {x : V} (I : Inv X pins σ H s) (f : FpOk X pins H it) (st : s.heap.IsListIter it a i) (hq : SqL X.K H a vs) (hx : vs[i]? = some x)
    (q : ∀ u s', RelV x u → Inv X pins σ H s' → s'.heap.IsListIter it a (i + 1) → Q (some u) s') : wpAny (model X.prog X.w) X.A (pyNext (.ref it)) Q E s := by
  obtain ⟨us, rel, isq, _⟩ := I.list hq
  obtain ⟨u, hu, ru⟩ := rel.get hx
  refine wpAny_pyNext_list_item (x := u) st isq.isList (by simpa using hu) fun h2 st2 same => q u _ ru ?_ st2
  exact I.turned (t' := s.toks) (fun b o nb e => (same.2 b nb).trans e) f.1 f.2.1 f.2.2.2.1 f.2.2.2.2.1 f.2.2.2.2.2
theorem next_none (hot : ∃ x1, HotAt X.A x1 s.heap) (I : Inv X pins σ H s) (f : FpOk X pins H it) (st : s.heap.IsListIter it a i) (hq : SqL X.K H a vs) (hx : vs.length ≤ i)
    (q : ∀ s', Inv X pins σ H s' → (∀ b o, b ≠ it → s.heap.get? b = some o → s'.heap.get? b = some o) → Q none s') : wpAny (model X.prog X.w) X.A (pyNext (.ref it)) Q E s := by
  obtain ⟨x1, hh, o1, fs, g1, g2, g3⟩ := hot
  obtain ⟨us, rel, isq, _⟩ := I.list hq
  obtain ⟨oi, io, ic, id'⟩ := id st
  obtain ⟨ol, lo, _, _, ld⟩ := isq.isList
  have ne : x1 ≠ it := fun z => by
    subst z
    rw [io] at g1
    cases g1
    rw [id'] at g2
    cases g2
    exact absurd g3 (by simp)
  have none' : us.toArray[i]? = none := by
    have := rel.length
    simp
    omega
  unfold pyNext
  refine wpAny_bind (wpAny_attempt (wpAny_callSpecial?_slot (name := Str.ofString "__next__") st.typeIs slot_listiter_next (wpAny_call_entry slot_listiter_next st.typeIs entry_listiter_next ?_ (args_listiter_next _))))
  show wpAny _ _ (field (.ref it) 0 >>= _) _ _ s
  refine wpAny_bind (wpAny_field io id' (x := .ref a) rfl ?_)
  show wpAny _ _ (if (Value.ref a == Value.none) = true then _ else _) _ _ s
  rw [show (Value.ref a == Value.none) = false from rfl, if_neg Bool.false_ne_true]
  show wpAny _ _ (field (.ref it) 1 >>= _) _ _ s
  refine wpAny_bind (wpAny_field io id' (x := .int i 0) rfl ?_)
  show wpAny _ _ (seqItems? (.ref a) >>= _) _ _ s
  refine wpAny_bind (wpAny_seqItems lo ld ?_)
  simp only [Int.toNat_natCast, none']
  have upd' : ∀ {f : Obj → Obj} {b : Addr} {o : Obj}, b ≠ it → s.heap.get? b = some o → (s.heap.update it f).get? b = some o := fun nb e => (Heap.get?_update_other _ _ (Ne.symm nb)).trans e
  refine wpAny_bind (wpAny_rule (wpAny_bind (wpAny_setField io id' (by simp) ?_)))
  show wpAny _ _ (newExc (.type "StopIteration") [] >>= fun e => raiseNew e) _ _ _
  refine stop_made ⟨hh, o1, fs, upd' ne g1, g2, g3⟩ fun e h ⟨oe, he, ce⟩ keep => wpAny_bind (wpAny_isInstance (T := "StopIteration") (b := true) ⟨oe, he, ce⟩ isSubtype_stop (wpAny_pure ?_))
  have kp : ∀ b o, b ≠ it → s.heap.get? b = some o → h.get? b = some o := fun b o nb z => keep b o (upd' nb z)
  exact q _ (I.turned (t' := s.toks) kp f.1 f.2.1 f.2.2.2.1 f.2.2.2.2.1 f.2.2.2.2.2) kp
end
def iLst (K : PySem.W.Frag) (ti : TE) : TI := fun σ H R => ti σ H fun v H1 => ∃ a, v = V.ref a ∧ (∃ xs, SqL K H1 a xs) ∧ R (Itl K a) H1
section
variable {X : Cx} {pins : List (Addr × Obj)} {σ : L2.St} {scope : Scope} {ce : PySem.Env} {it a D : Addr} {ws : List Nat}
theorem leave {s3 s' : Shared} {H3 H' : Hp} {τ : L2.St} (I3 : Inv X pins σ H3 s3) (B : Inv (X.blk s3 H3 scope ce [it]) [] τ H' s') (f : FpOk X pins H3 it) : Inv X pins σ H' s' :=
  I3.call' (ch := [it]) B.os B.base B.hok B.bare fun b hb => by
    rw [List.mem_singleton.mp hb]
    exact ⟨f.2.2.2.1, f.2.1, f.2.2.2.2.1, f.2.2.2.2.2⟩
theorem in_blk {s3 s' : Shared} {H3 H' : Hp} {τ : L2.St} (B : Inv (X.blk s3 H3 scope ce [it]) [] τ H' s') (n : H' it = none) : FpOk (X.blk s3 H3 scope ce [it]) [] H' it :=
  have m : it ∈ [it] := List.mem_singleton.mpr rfl
  ⟨n, (B.ok.exf it m).1, B.ok.exfs it m, .inl m, (B.ok.exf it m).2, fun p hp => by
    have : p ∈ ([] : List (Addr × Obj)) := hp
    cases this⟩
def TurnAsk (g : TG) (tt : TT) (te : TE) (ws : List Nat) (σ : L2.St) (D : Addr) (Nx : Hp → Prop) (x : V) (H : Hp) : Prop :=
  g x (wipe σ ws) H fun σ2 H2 => wipe σ2 ws = wipe σ ws ∧ tt σ2 H2 fun b H3 => if b = true then te σ2 H3 fun y H4 => ∃ acc, H4 D = some (.lst acc) ∧ acc.length < sizeLine ∧ Nx (upd H4 D (.lst (acc ++ [y]))) else Nx H3
structure Between (X : Cx) (s3 : Shared) (H3 : Hp) (scope : Scope) (ce : PySem.Env) (σ : L2.St) (ws : List Nat) (it a : Addr) (i : Nat) (H : Hp) (s : Shared) : Prop where
  inv : Inv (X.blk s3 H3 scope ce [it]) [] (wipe σ ws) H s
  iter : s.heap.IsListIter it a i
  free : H it = none
theorem Between.over {s3 s0 s : Shared} {H3 H : Hp} {τ : L2.St} {i : Nat} (hw : wipe τ ws = wipe σ ws) (B : Inv (X.blk s3 H3 scope ce [it]) ([] ++ pinsAt [it] s0.heap) τ H s) (st : s0.heap.IsListIter it a i) : Between X s3 H3 scope ce σ ws it a i H s := by
  obtain ⟨o, e, c, d⟩ := id st
  have pin := B.pin (it, o) (List.mem_append_right _ (List.mem_append_right _ (mem_pinsAt (List.mem_singleton.mpr rfl) e)))
  refine ⟨(B.unpinned (pins := [])).weak (by rw [← wipe_length τ ws, hw]) fun j v q => ?_, ⟨o, pin.1, c, d⟩, pin.2.1⟩
  rw [← hw] at q
  exact (wipe_some q).1
variable {elt tg iter : Expr} {ifs : List Expr} {own : List (PySem.Str × Nat)} {pos : Pos} {ti : TE} {g : TG} {tt : TT} {te : TE}
theorem walk (hc : HotC X) {s3 s4 : Shared} {H3 : Hp} {vs : List V} {Qd : Hp → Prop} {R : Result → Shared → Prop} {W : Nat → Nat → Hp → Prop} {m0 : Nat} (I3 : Inv X pins σ H3 s3) (f3 : FpOk X pins H3 it) (lt3 : it < s3.heap.objs.size) (cL : ce.locals = s3.heap.objs.size)
    (pg : PG (X.blk s3 H3 scope ce [it]) tg g) (pt : PTs (X.blk s3 H3 scope ce [it]) ifs tt) (pe : PE (X.blk s3 H3 scope ce [it]) elt te) (w0 : W 0 m0 H3)
    (turn : ∀ i m H, W i m H → ((Itl X.K a).stop i H ∧ Qd H) ∨ ((Itl X.K a).go i H ∧ ∃ Nx : Hp → Prop, (∀ H', Nx H' → ∃ m', m' < m ∧ W (i + 1) m' H') ∧ ∀ x H', (Itl X.K a).yld i H x H' → TurnAsk g tt te ws σ D Nx x H'))
    (B0 : Between X s3 H3 scope ce σ ws it a 0 H3 s4)
    (post : ∀ H' s' m, Inv X pins σ H' s' → Qd H' → s'.heap.Ns s3.heap.objs.size m → FpOk X pins H' s3.heap.objs.size → R (.ok .next) s') :
    codeAny (model X.prog X.w) X.A (.compLoop (.ListComp elt [⟨tg, iter, ifs, 0⟩] scope pos) 0 (.ref it) (.ref D) ce) R s4 := by
  refine compLoop_any (fun n s' => ∃ i H', Between X s3 H3 scope ce σ ws it a i H' s' ∧ W i n H') ?_ m0 ⟨0, H3, B0, w0⟩
  rintro n s5 ⟨i, H5, b5, w5⟩
  have out5 : Inv X pins σ H5 s5 := leave I3 b5.inv f3
  rcases turn i n H5 w5 with ⟨⟨vs, hq, hl⟩, qd⟩ | ⟨⟨vs, x, hq, hx⟩, Nx, hNx, ask⟩
  · -- no item is left
    refine thnF (next_none (E := fun _ _ => False) (hc.at out5) out5 ⟨b5.free, f3.2⟩ b5.iter hq hl (Q := fun r s6 => r = none ∧ Inv X pins σ H5 s6 ∧ ∀ b o, b ≠ it → s5.heap.get? b = some o → s6.heap.get? b = some o) fun s6 I6 kp => ⟨rfl, I6, kp⟩) fun r s6 ⟨er, I6, kp⟩ => ?_
    subst er
    have nC : H5 s3.heap.objs.size = none := by rw [← cL]; exact b5.inv.free
    obtain ⟨m, ⟨o, es, ep, e1, e2⟩, _⟩ := b5.inv.loc
    have e1 : s5.heap.get? ce.locals = some o := e1
    rw [cL] at e1
    exact post H5 s6 m I6 qd ⟨o, es, ep, kp _ _ (fun z => absurd lt3 (by rw [← z]; exact Nat.lt_irrefl _)) e1, e2⟩ (I3.fpOk (Nat.le_refl _) nC)
  · -- an item
    refine thnF (next_some (X := X.blk s3 H3 scope ce [it]) (E := fun _ _ => False) b5.inv (in_blk b5.inv b5.free) b5.iter hq hx (Q := fun r s6 => ∃ u, r = some u ∧ RelV x u ∧ Between X s3 H3 scope ce σ ws it a (i + 1) H5 s6) fun u s6 ru I6 st6 => ⟨u, rfl, ru, I6, st6, b5.free⟩) fun r s6 ⟨u, er, ru, b6⟩ => ?_
    subst er
    obtain ⟨o, e, c, d⟩ := id b6.iter
    show wpAny _ _ (letOwnedTupleGo tg (.ref it) u) _ _ _
    refine thnF (go_of (E := fun _ _ => False) (Q := fun _ s' => s' = s6) e c d (by decide) rfl) fun _ s7 e7 => ?_
    subst e7
    have I7 := b6.inv.pinned (fp := [it]) (fun b hb => by rw [List.mem_singleton.mp hb]; exact in_blk b6.inv b6.free) (fun b hb => by
      rw [List.mem_singleton.mp hb]
      exact ⟨o, e, fun v z => by rw [d] at z; cases z⟩)
    have yl : (Itl X.K a).yld i H5 x H5 := ⟨rfl, fun ys hy => by rw [out5.list_inj hy hq]; exact hx⟩
    refine thnF (pg.run _ s7 _ H5 x u _ I7 ru (ask x H5 yl)) fun _ s8 ⟨τ, H8, I8, hw, q8⟩ => ?_
    refine thnF (pt.run _ s8 τ H8 _ I8 q8) fun b s9 ⟨H9, I9, q9⟩ => ?_
    have again : ∀ {s' : Shared} {H' : Hp}, Inv (X.blk s3 H3 scope ce [it]) ([] ++ pinsAt [it] s7.heap) τ H' s' → Nx H' → ∃ m, m < n ∧ ∃ i H', Between X s3 H3 scope ce σ ws it a i H' s' ∧ W i m H' := fun {s' H'} J nx => by
      obtain ⟨m', hm, w'⟩ := hNx H' nx
      exact ⟨m', hm, i + 1, H', Between.over hw J b6.iter, w'⟩
    by_cases hb : b = true
    · rw [if_pos hb]
      have q9 : (if b = true then te τ H9 fun y H4 => ∃ acc, H4 D = some (.lst acc) ∧ acc.length < sizeLine ∧ Nx (upd H4 D (.lst (acc ++ [y]))) else Nx H9) := q9
      rw [if_pos hb] at q9
      refine thnF (pe.run _ s9 τ H9 _ I9 q9) fun z s10 ⟨y, H10, I10, r10, acc, hD, hl, nx⟩ => ?_
      exact app_ok (X := X.blk s3 H3 scope ce [it]) I10 hD hl r10 fun s11 I11 => again I11 nx
    · rw [if_neg hb]
      have q9 : (if b = true then te τ H9 fun y H4 => ∃ acc, H4 D = some (.lst acc) ∧ acc.length < sizeLine ∧ Nx (upd H4 D (.lst (acc ++ [y]))) else Nx H9) := q9
      rw [if_neg hb] at q9
      exact again I9 q9
theorem pe_lcO (hc : HotC X) (hN : X.N.Nodup) (hi : PE X iter ti) (ok : BlkOk X.N X.env.scope scope own)
    (hg : ∀ (s : Shared) (H : Hp) (C : Addr) (cl : List (PySem.Str × Addr)) (fp : List Addr), PG (X.blk s H scope (compEnvC scope cl C X.env) fp) tg g)
    (ht : ∀ (s : Shared) (H : Hp) (C : Addr) (cl : List (PySem.Str × Addr)) (fp : List Addr), PTs (X.blk s H scope (compEnvC scope cl C X.env) fp) ifs tt)
    (he : ∀ (s : Shared) (H : Hp) (C : Addr) (cl : List (PySem.Str × Addr)) (fp : List Addr), PE (X.blk s H scope (compEnvC scope cl C X.env) fp) elt te)
    (hs : ∀ x, foldedSetIterable iter X.env x = pure x := by intro _; rfl) : PE X (.ListComp elt [⟨tg, iter, ifs, 0⟩] scope pos) (tLc (iLst X.K ti) g tt te (own.map (·.2))) := by
  refine ⟨fun pins s σ H Q I h => ?_⟩
  rw [eval_ListComp]
  have cl0 : ∀ y ∈ scope.names, y.2 = .free → ∃ c, X.env.cells.lookup y.1 = some c := fun y hy e => (ok.free y hy e).elim (fun k => I.ok.has _ (.inl k)) fun k => I.ok.has _ (.inr k)
  refine wpAny_comprehension_free rfl hs (closure_ok cl0) ok.kind (fun y hy e => by rw [ok.uniq y hy, e]) (thn (hi.run pins s σ H _ I h) fun xv s1 ⟨x, H1, I1, r1, a, ea, ⟨vs, hq⟩, q⟩ => ?_)
  subst ea
  cases r1
  obtain ⟨us, rel, isq, _⟩ := I1.list hq
  refine wpAny_pyIter_list isq.isList (wpAny_newObj_type (newEnv_comp ?_) (by show 0 ≤ sizeLine; decide))
  -- the iterator it, the new list D
  generalize hit : s1.heap.objs.size = it
  generalize hh2 : s1.heap.push _ = h2
  have k12 : ∀ b o, s1.heap.get? b = some o → h2.get? b = some o := fun b o e => by rw [← hh2]; exact Heap.get?_push_of_some _ e
  have I2 : Inv X pins σ H1 { s1 with heap := h2 } := I1.kept (t' := s1.toks) k12
  have st2 : h2.IsListIter it a 0 := by rw [← hh2, ← hit]; exact ⟨_, Heap.get?_push_size _ rfl, rfl, rfl⟩
  have f2 : FpOk X pins H1 it := by rw [← hit]; exact I1.fpOk (Nat.le_refl _) (I1.hok.fresh (Nat.le_refl _))
  have lt2 : it < h2.objs.size := by obtain ⟨_, e, _⟩ := st2; exact Heap.lt_size e
  generalize hs2 : ({ s1 with heap := h2 } : Shared) = s2 at I2 ⊢
  have eh : s2.heap = h2 := by rw [← hs2]
  rw [← eh] at st2 lt2
  generalize hD : s2.heap.objs.size = D
  have free : H1 D = none := I2.hok.fresh (Nat.le_of_eq hD)
  obtain ⟨W, ⟨m0, w0⟩, turn⟩ := q D free
  generalize hs3 : ({ s2 with heap := s2.heap.push { cls := .type "list", data := .seq #[] } } : Shared) = s3
  have k23 : ∀ b o, s2.heap.get? b = some o → s3.heap.get? b = some o := fun b o e => by rw [← hs3]; exact Heap.get?_push_of_some _ e
  have I3 : Inv X pins σ (upd H1 D (.lst [])) s3 := by
    rw [← hs3]
    exact I2.laid (t' := s2.toks) (fun b o e => Heap.get?_push_of_some _ e) (Nat.le_of_eq hD) ⟨Nat.zero_le _, [], 0, .nil, by rw [← hD]; exact Heap.get?_push_size _ rfl⟩
  have f3 : FpOk X pins (upd H1 D (.lst [])) it := ⟨by rw [upd_ne (by rw [← hD]; exact Nat.ne_of_lt lt2)]; exact f2.1, f2.2⟩
  have lt3 : it < s3.heap.objs.size := by
    obtain ⟨o, e, _⟩ := id st2
    exact Heap.lt_size (k23 it o e)
  have I4 := block_start (fp := [it]) I3 ok hN fun b hb => by rw [List.mem_singleton.mp hb]; exact ⟨f3, lt3⟩
  have st4 : ∀ h' : Heap, (∀ b o, s3.heap.get? b = some o → h'.get? b = some o) → h'.IsListIter it a 0 := fun h' kk => by
    obtain ⟨o, e, r⟩ := id st2
    exact ⟨o, kk _ _ (k23 _ _ e), r⟩
  have done : codeAny (model X.prog X.w) X.A (.compLoop (.ListComp elt [⟨tg, iter, ifs, 0⟩] scope pos) 0 (.ref it) (.ref D) (compEnvC scope (cellsFrom (s3.heap.objs.size + 1) scope.names (cloFrom X.env.cells scope.names [])) s3.heap.objs.size X.env)) (compPost (model X.prog X.w) X.A X.xe none (EP X pins σ Q) (.ref D) s3.heap.objs.size) { s3 with heap := pushCells (s3.heap.push { cls := .type "dict", data := .dict #[] }) scope.names } :=
    walk (Qd := Q (.ref D)) (vs := vs) (ws := own.map (·.2)) hc I3 f3 lt3 rfl (hg _ _ _ _ _) (ht _ _ _ _ _) (he _ _ _ _ _) w0 turn ⟨I4, st4 _ fun b o e => pushCells_keeps _ _ _ _ (Heap.get?_push_of_some _ e), f3.1⟩ fun H' s' m I' qd hn f => ⟨m, hn, fun h'' sb => by
      exact ⟨.ref D, H', I'.turned (t' := s'.toks) (fun b o nb e => (sb.2 b nb).trans e) f.1 f.2.1 f.2.2.2.1 f.2.2.2.2.1 f.2.2.2.2.2, rfl, qd⟩⟩
  exact codeAny_compStart_list done (wpAny_pyIter_listiter (st4 _ fun b o e => pushCells_keeps _ _ _ _ (Heap.get?_push_of_some _ e)) done)
end
end LO
namespace DL
open PySem PySem.Spec L2
section
variable {X : Cx} {g : G} {W : WX} {ca cb cc : Nat} {fa : ED} {σ : St} {H : Hp} {e : Expr}
def lstK (Q : List D → Prop) (x : RV) : Prop := match x with
  | .val (.lst xs) => Q xs
  | _ => False
def iLstD (fa : ED) : ID := fun env Q E => frz fa env (lstK Q) E
theorem W_lst {env : En} {P : List D → Prop} {E : Exc → Prop} : iLstD fa env P E = frz fa env (lstK P) E := rfl
theorem W_lst1 {P : List D → Prop} {xs : List D} : lstK P (.val (.lst xs)) = P xs := rfl
theorem lst_items {Q : List D → Prop} {x : RV} (q : lstK Q x) : itemsQ x Q := by
  unfold lstK at q
  split at q
  · exact q
  · exact q.elim
theorem di_lst {tg : Expr} (cy : Cy X g W) (ha : DE X g W ca e fa) : DI X g W ca tg e (iLstD fa) :=
  ⟨PIimp (di_any (tg := tg) cy ha).pi fun σ H R ⟨T, F, env, hT, ok, h⟩ => ⟨T, F, env, hT, ok, ha.frz.mono env _ _ _ _ (fun x q => lst_items q) (fun x q => q) h⟩,
    fun env Q Q' E E' hq he h => ha.frz.mono env _ _ _ _ (fun x q => by
      unfold lstK at q ⊢
      split at q
      · exact hq _ q
      · exact q.elim) he h⟩
theorem lst_fit {R : It → Hp → Prop} (cy : Cy X g W) (ha : DE X g W ca e fa) : tDI g W ca (iLstD fa) σ H R → LO.iLst X.K (tD g W ca (frz fa)) σ H R := fun ⟨T, F, env, hT, ok, h⟩ => by
  rw [cy.k]
  refine run_e ok (by omega) ha.frz.mono h (fun x q F1 H1 v w o rx => ?_) (exE.shift ok.refl (by omega))
  unfold lstK at q
  split at q
  · simp only [RepR, Rep] at rx
    obtain ⟨a, vs, rfl, h1, h2⟩ := rx
    exact ⟨a, rfl, ⟨vs, .inl (.inl (o.fh _ _ h1))⟩, q F1 H1 _ w o (wk_list h1 h2)⟩
  · exact q.elim
theorem de_lcO (cy : Cy X g W) (hot : L2H.HotC X) {elt tg : Expr} {ifs : List Expr} {scope : Scope} {own : List (Str × Nat)} {pos : Pos} {b : BD} {sl : List Nat} {t : TG} {ft : TD} {fe : ED} (hN : X.N.Nodup) (ha : DE X g W ca e fa) (ok : BlkOk X.N X.env.scope scope own)
    (hg : ∀ (s : Shared) (H : Hp) (C : Addr) (cl : List (Str × Addr)) (fp : List Addr), Cy (X.blk s H scope (compEnvC scope cl C X.env) fp) g W0 → DG (X.blk s H scope (compEnvC scope cl C X.env) fp) g tg b sl t)
    (ht : ∀ (s : Shared) (H : Hp) (C : Addr) (cl : List (Str × Addr)) (fp : List Addr), Cy (X.blk s H scope (compEnvC scope cl C X.env) fp) g W0 → DTs (X.blk s H scope (compEnvC scope cl C X.env) fp) g W0 cb ifs ft)
    (he : ∀ (s : Shared) (H : Hp) (C : Addr) (cl : List (Str × Addr)) (fp : List Addr), Cy (X.blk s H scope (compEnvC scope cl C X.env) fp) g W0 → DE (X.blk s H scope (compEnvC scope cl C X.env) fp) g W0 cc elt fe)
    (hsl : ∀ i ∈ sl, i ∈ own.map (·.2) := by decide) (hfs : ∀ (x : Value), foldedSetIterable e X.env x = pure x := by intro _; rfl) :
    DE X g W (ca + NN * (cb + cc)) (.ListComp elt [⟨tg, e, ifs, 0⟩] scope pos) (eLc (iLstD fa) b ft fe (own.map (·.2))) := by
  have f := lc_fit cy hN (di_lst cy ha) ok hg ht he hsl (elt := elt) (pos := pos)
  exact ⟨PEimp (LO.pe_lcO hot hN ha.frz.pe ok (fun s H C cl fp => (hg s H C cl fp (cy.blk _ _ _ _ _)).pg) (fun s H C cl fp => (ht s H C cl fp (cy.blk _ _ _ _ _)).pts) (fun s H C cl fp => (he s H C cl fp (cy.blk _ _ _ _ _)).frz.pe) hfs) fun σ H Q h => lst_fit cy ha (f.1 σ H Q h), f.2⟩
end
end DL
namespace DL
open PySem PySem.Spec L2
def oneKF (c : EK → Addr) (kinds : List EK) (a : Addr) (z : Exc) : FD := fun rs Q _ => ∃ e : Er, e.k ∈ kinds ∧ e.xs.length = e.k.flds.length ∧ z = e.X c ∧ rs = [.val (.cls a)] ∧ Q (.val (.bl true))
theorem mono_oneKF {c : EK → Addr} {kinds : List EK} {a : Addr} {z : Exc} : MonoF (oneKF c kinds a z) := fun rs Q Q' E E' hq he ⟨e, h1, h2, h3, h4, h5⟩ => ⟨e, h1, h2, h3, h4, hq _ h5⟩
theorem oneK_of {c : EK → Addr} {kinds : List EK} {a : Addr} {e : Er} {Q : RV → Prop} {E : Exc → Prop} (hk : e.k ∈ kinds) (hl : e.xs.length = e.k.flds.length) (q : Q (.val (.bl true))) : app (oneKF c kinds a (e.X c)) [.val (.cls a)] Q E := ⟨e, hk, hl, rfl, rfl, q⟩
def blB : D → Bool := fun d => match d with
  | .bl b => b
  | _ => false
end DL
namespace DL
open PySem PySem.Spec L2
section
variable {X : Cx} {g : G} {W : WX} {ca cb : Nat} {fa fb : ED} {a b : Expr} {pos : Pos}
def mulLQ : Q2 := fun x y Q => ∃ (xs : List D) (k : Nat), x = .val (.lst xs) ∧ y = .val (.int (k : Int)) ∧ k ≤ 1000 ∧ xs.length ≤ 100 ∧ Q (.own (List.replicate k xs).flatten)
theorem mono_mulLQ : MonoQ2 mulLQ := fun x y Q Q' hq ⟨xs, k, h1, h2, h3, h4, q⟩ => ⟨xs, k, h1, h2, h3, h4, hq _ q⟩
theorem repL_rep {K : PySem.W.Frag} {F : Hp} {xs : List D} {vs : List V} (h : RepL K F xs vs) : ∀ n : Nat, RepL K F (List.replicate n xs).flatten (List.replicate n vs).flatten
  | 0 => by simp only [List.replicate_zero, List.flatten_nil, RepL]
  | n + 1 => by
    rw [List.replicate_succ, List.flatten_cons, List.replicate_succ, List.flatten_cons]
    exact h.append (repL_rep h n)
theorem d_mulL : OpD g rRep mulLQ := by
  intro T F env σ H Hs x y v w Q Qv ok rx ry q k
  obtain ⟨xs, n, rfl, rfl, h1, h2, q⟩ := q
  simp only [RepR, Rep] at rx ry
  obtain ⟨l, vs, rfl, ha, hx⟩ := rx
  subst ry
  have e : ((n : Int)).toNat = n := Int.toNat_natCast n
  have hl : vs.length * n ≤ LIM := by
    rw [← hx.length]
    exact Nat.mul_le_mul h2 h1
  refine ⟨l, (n : Int), vs, rfl, rfl, ok.fh _ _ ha, by omega, by omega, by rw [e]; exact lim_line hl, fun p hp => ?_⟩
  rw [e]
  exact k _ F _ _ q (Grow.new ok.fh ok.sto.free hp) (ok.new hp) (RepR.made ok hp (repL_rep hx n))
theorem de_mulL (cy : Cy X g W) (ha : DE X g W ca a fa) (hb : DE X g W cb b fb) : DE X g W (ca + cb) (.BinOp a .Mult b pos) (eOp mulLQ fa fb) := de_op op_rep d_mulL mono_mulLQ ha hb
theorem W_mulL {xs : List D} {i : Int} {Q : RV → Prop} : mulLQ (.val (.lst xs)) (.val (.int i)) Q = ((0 ≤ i ∧ i ≤ 1000 ∧ xs.length ≤ 100) ∧ Q (.own (List.replicate i.toNat xs).flatten)) := propext ⟨fun ⟨_, k, h1, h2, h3, h4, q⟩ => by
    cases h1
    cases h2
    exact ⟨⟨by omega, by omega, h4⟩, by rw [Int.toNat_natCast]; exact q⟩, fun ⟨⟨h1, h2, h3⟩, q⟩ => ⟨xs, i.toNat, rfl, by rw [Int.toNat_of_nonneg h1], by omega, h3, q⟩⟩
end
end DL
namespace DL
open PySem PySem.Spec L2
theorem cnt_all : ∀ {R : List (List (List Str))}, (∀ r ∈ R, r.length ≤ 4) → R.length = cnt R 0 + cnt R 1 + cnt R 2 + cnt R 3 + cnt R 4
  | [], _ => rfl
  | r :: R, h => by
    rw [List.length_cons, cnt_all fun s m => h s (List.mem_cons_of_mem _ m)]
    simp only [cnt_cons]
    have := h r List.mem_cons_self
    have : r.length = 0 ∨ r.length = 1 ∨ r.length = 2 ∨ r.length = 3 ∨ r.length = 4 := by omega
    rcases this with e | e | e | e | e <;> rw [e] <;> simp <;> omega
theorem stir_few : ∀ k, k ≤ 7 → stir k 0 + stir k 1 + stir k 2 + stir k 3 + stir k 4 ≤ 715
  | 0, _ | 1, _ | 2, _ | 3, _ | 4, _ | 5, _ | 6, _ | 7, _ => by decide
  | k + 8, h => by omega
theorem rows_few {many : Nat} {m : List Str} {R : List (List (List Str))} (h : RowsOk many m R) (hm : many ≤ 4) (hl : m.length ≤ 7) : R.length ≤ 715 := by
  have e : ∀ j, cnt R j ≤ stir m.length j := fun j => by
    by_cases c : j ≤ many
    · rw [h.cnt j c]; exact Nat.le_refl _
    · have : cnt R j = 0 := by
        unfold cnt
        rw [List.length_eq_zero_iff, List.filter_eq_nil_iff]
        intro r mr
        have := (h.ok r mr).2
        simp only [decide_eq_true_eq]
        omega
      omega
  rw [cnt_all fun r mr => Nat.le_trans (h.ok r mr).2 hm]
  have := e 0; have := e 1; have := e 2; have := e 3; have := e 4
  have := stir_few _ hl
  omega
theorem divRows_snoc (many : Nat) (x : Str) : ∀ (l : List Str) (R : List (List (List Str))), divRows many (l ++ [x]) R = (divRows many l R).flatMap fun r => placL r x many
  | [], R => rfl
  | y :: l, R => by
    show divRows many (l ++ [x]) _ = (divRows many l _).flatMap _
    exact divRows_snoc many x l _
theorem rows_take {n : List Str} (hn : SetOk n) (many i : Nat) : RowsOk many (n.take i) (divRows many (n.take i) [[]]) := by
  have := rows_all (l := n.take i) (RowsOk.start many) (by rw [List.nil_append]; exact hn.pw.sublist (List.take_sublist _ _)) (by rw [List.nil_append]; exact hn.1.2.sublist (List.take_sublist _ _))
  rwa [List.nil_append] at this
theorem LotsOk.fit {m : List Str} {r : List (List Str)} (h : LotsOk m r) : ∀ l ∈ r, l.length ≤ m.length := fun l ml => (h.sub l ml).2.length_le
theorem placL_bound {lots : List (List Str)} {x : Str} {many : Nat} (h : lots.length ≤ many) : (placL lots x many).length ≤ many := by
  unfold placL
  rw [List.length_append, List.length_map, List.length_range]
  split <;> simp <;> omega
def stirRow (i : Nat) : List D := (List.range 5).map fun j => D.int (stir i j : Nat)
theorem stirRow_at (i : Nat) {j : Nat} (h : j ≤ 4) : (stirRow i)[j]? = some (.int (stir i j : Nat)) := by
  unfold stirRow
  rw [List.getElem?_map, List.getElem?_range (by omega)]
  rfl
theorem stir_0 : ∀ i, stir (i + 1) 0 = 0
  | i => by show 0 * stir i 0 + 0 = 0; omega
theorem stirRow_step (i : Nat) : stirRow (i + 1) = .int 0 :: ((List.range 4).map fun j => D.int ((j + 1 : Nat) * (stir i (j + 1) : Nat) + (stir i j : Nat) : Int)) := by
  unfold stirRow
  show [D.int (stir (i + 1) 0 : Nat), D.int (stir (i + 1) 1 : Nat), D.int (stir (i + 1) 2 : Nat), D.int (stir (i + 1) 3 : Nat), D.int (stir (i + 1) 4 : Nat)] = [D.int 0, _, _, _, _]
  rw [stir_0]
  have e : ∀ j : Nat, stir (i + 1) (j + 1) = (j + 1) * stir i (j + 1) + stir i j := fun j => by
    show (j + 1) * stir i (j + 1) + (if j + 1 = 0 then 0 else stir i (j + 1 - 1)) = _
    rw [if_neg (by omega)]
    rfl
  rw [e 0, e 1, e 2, e 3]
  simp only [Int.natCast_add, Int.natCast_mul]
  rfl
theorem stir_pow : ∀ k, k ≤ 12 → 0 < k → ((4 ^ k - 4 * 3 ^ k + 6 * 2 ^ k - 4 : Int)).fdiv 24 = (stir k 4 : Nat)
  | 0, _, h => by omega
  | 1, _, _ | 2, _, _ | 3, _, _ | 4, _, _ | 5, _, _ | 6, _, _ | 7, _, _ | 8, _, _ | 9, _, _ | 10, _, _ | 11, _, _ | 12, _, _ => by decide
  | k + 13, h, _ => by omega
theorem one_nil {α : Type} : ∀ {ls : List (List α)}, ls.Nodup → (∀ r ∈ ls, r = []) → ls.length ≤ 1
  | [], _, _ => Nat.zero_le _
  | [a], _, _ => Nat.le_refl _
  | a :: b :: t, nd, h => by
    have ha := h a List.mem_cons_self
    have hb := h b (List.mem_cons_of_mem _ List.mem_cons_self)
    exact absurd (by rw [ha, hb]; exact List.mem_cons_self) (List.nodup_cons.mp nd).1
def BadL (hi : Int) (ds : List D) : Prop := ∀ d ∈ ds, numDue 0 hi d = some ⟨.badNumber, [d]⟩
theorem num_out {hi i : Int} (h : i < 0 ∨ hi < i) : numDue 0 hi (.int i) = some ⟨.badNumber, [.int i]⟩ := by
  rw [numDue_int, if_neg (by omega)]
theorem badL_add {hi : Int} {ds : List D} {d : D} (h : BadL hi ds) (hd : numDue 0 hi d = some ⟨.badNumber, [d]⟩) : BadL hi (ds ++ [d]) := fun e m => by
  rcases List.mem_append.mp m with m | m
  · exact h e m
  · rw [List.mem_singleton.mp m]
    exact hd
theorem hi_tiny {r : Int} (h0 : -1 ≤ r) (h1 : r ≤ 12) : r.natAbs.log2 < 1920 ∧ FlatD (.str (Str.ofString (toString r))) := by
  rcases (by omega : r = -1 ∨ r = 0 ∨ r = 1 ∨ r = 2 ∨ r = 3 ∨ r = 4 ∨ r = 5 ∨ r = 6 ∨ r = 7 ∨ r = 8 ∨ r = 9 ∨ r = 10 ∨ r = 11 ∨ r = 12) with rfl | rfl | rfl | rfl | rfl | rfl | rfl | rfl | rfl | rfl | rfl | rfl | rfl | rfl <;> exact ⟨by decide +kernel, by decide +kernel, allV_lit (by decide +kernel)⟩
theorem flatL_snoc {ds : List D} {d : D} (h : FlatL ds) (hd : FlatD d) (hl : ds.length < 900) : FlatL (ds ++ [d]) := by
  refine ⟨by rw [List.length_append]; simp; omega, fun e m => ?_⟩
  rcases List.mem_append.mp m with m | m
  · exact h.2 e m
  · rw [List.mem_singleton.mp m]
    exact hd
def wrongNF : FD := fun rs Q _ => ∃ (hi : Int) (al : Bool), rs = [.sto, .val (.int 0), .val (.int hi), .val (.bl al)] ∧ -1 ≤ hi ∧ hi ≤ 12 ∧ ∀ d, FlatD d → numDue 0 hi d = some ⟨.badNumber, [d]⟩ → Q (.val d)
theorem mono_wrongNF : MonoF wrongNF := fun rs Q Q' E E' hq he ⟨hi, al, h1, h2, h3, h4⟩ => ⟨hi, al, h1, h2, h3, fun d h h' => hq _ (h4 d h h')⟩
theorem wrongN_of {Q : RV → Prop} {E : Exc → Prop} {hi : Int} {al : Bool} (h1 : -1 ≤ hi) (h2 : hi ≤ 12) (h : ∀ d, FlatD d → numDue 0 hi d = some ⟨.badNumber, [d]⟩ → Q (.val d)) : app wrongNF [.sto, .val (.int 0), .val (.int hi), .val (.bl al)] Q E := ⟨hi, al, rfl, h1, h2, h⟩
theorem num_nat {d : D} {hi : Int} (h : numDue 0 hi d = none) : ∃ k : Nat, d = .int (k : Int) ∧ (k : Int) ≤ hi := by
  unfold numDue at h
  split at h
  · rename_i i
    split at h
    · rename_i c
      exact ⟨i.toNat, by rw [Int.toNat_of_nonneg c.1], by rw [Int.toNat_of_nonneg c.1]; exact c.2⟩
    · cases h
  · cases h
def countNF : FD := fun rs Q _ => ∃ hi : Int, rs = [.sto, .val (.int hi)] ∧ 5 ≤ hi ∧ hi ≤ 12 ∧ ∀ r : Int, 0 ≤ r → r ≤ hi → Q (.val (.int r))
theorem mono_countNF : MonoF countNF := fun rs Q Q' E E' hq he ⟨hi, h1, h2, h3, h4⟩ => ⟨hi, h1, h2, h3, fun r a b => hq _ (h4 r a b)⟩
theorem countN_of {Q : RV → Prop} {E : Exc → Prop} {hi : Int} (h1 : 5 ≤ hi) (h2 : hi ≤ 12) (h : ∀ r : Int, 0 ≤ r → r ≤ hi → Q (.val (.int r))) : app countNF [.sto, .val (.int hi)] Q E := ⟨hi, rfl, h1, h2, h⟩
def manyF : FD := fun rs Q _ => ∃ k : Nat, rs = [.val (.int (k : Int))] ∧ k ≤ 12 ∧ Q (.val (.int (stir k 4 : Nat)))
theorem mono_manyF : MonoF manyF := fun rs Q Q' E E' hq he ⟨k, h1, h2, h3⟩ => ⟨k, h1, h2, hq _ h3⟩
theorem many_of {Q : RV → Prop} {E : Exc → Prop} {k : Nat} (h1 : k ≤ 12) (h : Q (.val (.int (stir k 4 : Nat)))) : app manyF [.val (.int (k : Int))] Q E := ⟨k, rfl, h1, h⟩
def islotF : FD := fun rs Q _ => ∃ l n : List Str, rs = [.val (tupS l), .val (.lst (n.map D.str))] ∧ l ≠ [] ∧ SetOk n ∧ n.length ≤ 12 ∧ l.Sublist n ∧ Q (.val (.bl true))
theorem mono_islotF : MonoF islotF := fun rs Q Q' E E' hq he ⟨l, n, h1, h2, h3, h4, h5, h6⟩ => ⟨l, n, h1, h2, h3, h4, h5, hq _ h6⟩
theorem islot_of {Q : RV → Prop} {E : Exc → Prop} {l n : List Str} (h1 : l ≠ []) (h2 : SetOk n) (h3 : n.length ≤ 12) (h4 : l.Sublist n) (h : Q (.val (.bl true))) : app islotF [.val (tupS l), .val (.lst (n.map D.str))] Q E := ⟨l, n, rfl, h1, h2, h3, h4, h⟩
def islotsF : FD := fun rs Q _ => ∃ (n : List Str) (p : List (List Str)), rs = [.val (tupsD p), .val (.lst (n.map D.str))] ∧ SetOk n ∧ n.length ≤ 12 ∧ LotsOk n p ∧ p.length = 4 ∧ Q (.val (.bl true))
theorem mono_islotsF : MonoF islotsF := fun rs Q Q' E E' hq he ⟨n, p, h1, h2, h3, h4, h5, h6⟩ => ⟨n, p, h1, h2, h3, h4, h5, hq _ h6⟩
theorem islots_of {Q : RV → Prop} {E : Exc → Prop} {n : List Str} {p : List (List Str)} (h1 : SetOk n) (h2 : n.length ≤ 12) (h3 : LotsOk n p) (h4 : p.length = 4) (h : Q (.val (.bl true))) : app islotsF [.val (tupsD p), .val (.lst (n.map D.str))] Q E := ⟨n, p, rfl, h1, h2, h3, h4, h⟩
def isallF : FD := fun rs Q _ => ∃ n : List Str, rs = [.val (tupssD (divL n 4)), .val (.lst (n.map D.str))] ∧ SetOk n ∧ n.length ≤ 7 ∧ Q (.val (.bl true))
theorem mono_isallF : MonoF isallF := fun rs Q Q' E E' hq he ⟨n, h1, h2, h3, h4⟩ => ⟨n, h1, h2, h3, hq _ h4⟩
theorem isall_of {Q : RV → Prop} {E : Exc → Prop} {n : List Str} (h1 : SetOk n) (h2 : n.length ≤ 7) (h : Q (.val (.bl true))) : app isallF [.val (tupssD (divL n 4)), .val (.lst (n.map D.str))] Q E := ⟨n, rfl, h1, h2, h⟩
theorem LotsOk.srt {m : List Str} {r : List (List Str)} (h : LotsOk m r) : r.Pairwise fun a b => leL a b = true := h.ord.imp fun ⟨x, s, y, t, e1, e2, h1, h2⟩ => by
  subst e1
  subst e2
  exact leL_cons h1 h2
theorem LotsOk.nd {m : List Str} {r : List (List Str)} (h : LotsOk m r) : r.Nodup := List.nodup_iff_pairwise_ne.mpr (h.ord.imp fun ⟨x, s, y, t, e1, e2, h1, h2⟩ z => by
  subst e1
  subst e2
  injection z with z1 _
  exact h2 z1)
def fewDue (n : Nat) (m : Int) : Option Er := if m < (n : Int) then some ⟨.tooMany, [.int m]⟩ else none
def allpDue (ds : List D) : Option Er := orDue (namesDue ds) (fewDue ds.length 7)
theorem fewDue_err {n : Nat} {m : Int} {e : Er} (h : fewDue n m = some e) : e.k = .tooMany ∧ e.xs.length = e.k.flds.length := by
  unfold fewDue at h
  split at h
  · cases h; exact ⟨rfl, rfl⟩
  · cases h
theorem allp_err {ds : List D} {e : Er} (h : allpDue ds = some e) : (e.k = .badName ∨ e.k = .repeatedName ∨ e.k = .tooMany) ∧ e.xs.length = e.k.flds.length := by
  unfold allpDue at h
  cases hn : namesDue ds with
  | none =>
    rw [hn] at h
    obtain ⟨h1, h2⟩ := fewDue_err (show fewDue ds.length 7 = some e from h)
    exact ⟨.inr (.inr h1), h2⟩
  | some e' =>
    rw [hn] at h
    obtain rfl : e' = e := by injection h
    unfold namesDue at hn
    split at hn
    · cases hn; exact ⟨.inl rfl, rfl⟩
    · split at hn
      · cases hn; exact ⟨.inr (.inl rfl), rfl⟩
      · split at hn
        · cases hn; exact ⟨.inr (.inr rfl), rfl⟩
        · cases hn
theorem allp_one {ds : List D} {e : Er} (hf : ∀ d ∈ ds, FlatD d) (h : allpDue ds = some e) : OneE e := by
  unfold allpDue at h
  refine orDue_one h (fun z => namesDue_one hf z) fun z => ?_
  unfold fewDue at z
  split at z
  · cases z
    exact ⟨.inr (.inr (.inl rfl)), _, rfl, True.intro⟩
  · cases z
theorem allp_none {ds : List D} (h : allpDue ds = none) : ∃ ss : List Str, ds = ss.map D.str ∧ NamesOk ss ∧ ss.length ≤ 7 := by
  unfold allpDue at h
  obtain ⟨h1, h2⟩ := orDue_none h
  obtain ⟨ss, rfl, ok, _⟩ := namesDue_none h1
  refine ⟨ss, rfl, ok, ?_⟩
  unfold fewDue at h2
  split at h2
  · cases h2
  · rename_i c
    rw [List.length_map] at c
    omega
def answerF : FD := fun rs Q E => ∃ (d : D) (ds : List D), rs = [.val d] ∧ seqD d = some ds ∧ FlatL ds ∧ Q (.val (match allpDue ds with | none => .tup [.str (Str.ofString "answer"), tupssD (divL (sortS (strsD ds)) 4)] | some e => e.d))
theorem mono_answerF : MonoF answerF := fun rs Q Q' E E' hq he ⟨d, ds, h1, h2, h3, h4⟩ => ⟨d, ds, h1, h2, h3, hq _ h4⟩
theorem answer_of {Q : RV → Prop} {E : Exc → Prop} {d : D} {ds : List D} (h1 : seqD d = some ds) (h2 : FlatL ds) (h : Q (.val (match allpDue ds with | none => .tup [.str (Str.ofString "answer"), tupssD (divL (sortS (strsD ds)) 4)] | some e => e.d))) : app answerF [.val d] Q E := ⟨d, ds, rfl, h1, h2, h⟩
def countedF : FD := fun rs Q E => ∃ d : D, rs = [.val d] ∧ FlatD d ∧ (∀ e, numDue 0 12 d = some e → Q (.val e.d)) ∧ (∀ k : Nat, d = .int k → k ≤ 12 → Q (.val (.tup [.str (Str.ofString "answer"), .int (stir k 4 : Nat)])))
theorem mono_countedF : MonoF countedF := fun rs Q Q' E E' hq he ⟨d, h1, h2, h3, h4⟩ => ⟨d, h1, h2, fun e a => hq _ (h3 e a), fun k a b => hq _ (h4 k a b)⟩
theorem counted_of {Q : RV → Prop} {E : Exc → Prop} {d : D} (h1 : FlatD d) (h2 : ∀ e, numDue 0 12 d = some e → Q (.val e.d)) (h3 : ∀ k : Nat, d = .int k → k ≤ 12 → Q (.val (.tup [.str (Str.ofString "answer"), .int (stir k 4 : Nat)]))) : app countedF [.val d] Q E := ⟨d, rfl, h1, h2, h3⟩
def askedF : FD := fun rs Q _ => ∃ (d : D) (ds : List D), rs = [.val d] ∧ seqD d = some ds ∧ FlatL ds ∧ Q (.val (.bl true))
theorem mono_askedF : MonoF askedF := fun rs Q Q' E E' hq he ⟨d, ds, h1, h2, h3, h4⟩ => ⟨d, ds, h1, h2, h3, hq _ h4⟩
theorem asked_of {Q : RV → Prop} {E : Exc → Prop} {d : D} {ds : List D} (h1 : seqD d = some ds) (h2 : FlatL ds) (h : Q (.val (.bl true))) : app askedF [.val d] Q E := ⟨d, ds, rfl, h1, h2, h⟩
end DL
/-! law_k38_all_partings: what stands in the text -/
namespace K38
open PySem PySem.Spec L2 DL
def topS (i : Nat) : Stmt := PySem.Challenge.pw_fourmet_k38_all_partings.main.body.getD i (.Pass ⟨0, 0, 0, 0⟩)
abbrev s_divisions : Stmt := topS 25
abbrev N_divisions : List Str := ["names", "many", "rows", "name", "row", "lots"]
theorem sc_divisions : FnScope N_divisions ["names", "many"] (defScope s_divisions) := ⟨rfl, rfl, rfl, by decide +kernel, rfl, by decide +kernel, by decide +kernel⟩
abbrev s_placings : Stmt := topS 26
abbrev N_placings : List Str := ["lots", "name", "many", "found", "at", "lot"]
theorem sc_placings : FnScope N_placings ["lots", "name", "many"] (defScope s_placings) := ⟨rfl, rfl, rfl, by decide +kernel, rfl, by decide +kernel, by decide +kernel⟩
abbrev s_is_name : Stmt := topS 33
abbrev N_is_name : List Str := ["value", "sign"]
theorem sc_is_name : FnScope N_is_name ["value"] (defScope s_is_name) := ⟨rfl, rfl, rfl, by decide +kernel, rfl, by decide +kernel, by decide +kernel⟩
abbrev s_check_name : Stmt := topS 34
abbrev N_check_name : List Str := ["value"]
theorem sc_check_name : FnScope N_check_name ["value"] (defScope s_check_name) := ⟨rfl, rfl, rfl, by decide +kernel, rfl, by decide +kernel, by decide +kernel⟩
abbrev s_check_whole : Stmt := topS 35
abbrev N_check_whole : List Str := ["value"]
theorem sc_check_whole : FnScope N_check_whole ["value"] (defScope s_check_whole) := ⟨rfl, rfl, rfl, by decide +kernel, rfl, by decide +kernel, by decide +kernel⟩
abbrev s_check_number : Stmt := topS 36
abbrev N_check_number : List Str := ["value", "low", "high"]
theorem sc_check_number : FnScope N_check_number ["value", "low", "high"] (defScope s_check_number) := ⟨rfl, rfl, rfl, by decide +kernel, rfl, by decide +kernel, by decide +kernel⟩
abbrev s_name_tuple : Stmt := topS 37
abbrev N_name_tuple : List Str := ["names", "name", "seen"]
theorem sc_name_tuple : FnScope N_name_tuple ["names"] (defScope s_name_tuple) := ⟨rfl, rfl, rfl, by decide +kernel, rfl, by decide +kernel, by decide +kernel⟩
abbrev s_require_few : Stmt := topS 39
abbrev N_require_few : List Str := ["names", "most"]
theorem sc_require_few : FnScope N_require_few ["names", "most"] (defScope s_require_few) := ⟨rfl, rfl, rfl, by decide +kernel, rfl, by decide +kernel, by decide +kernel⟩
abbrev s_all_partings : Stmt := topS 42
abbrev N_all_partings : List Str := ["names", "held"]
theorem sc_all_partings : FnScope N_all_partings ["names"] (defScope s_all_partings) := ⟨rfl, rfl, rfl, by decide +kernel, rfl, by decide +kernel, by decide +kernel⟩
abbrev s_count_partings : Stmt := topS 43
abbrev N_count_partings : List Str := ["count", "row", "_", "lots"]
theorem sc_count_partings : FnScope N_count_partings ["count"] (defScope s_count_partings) := ⟨rfl, rfl, rfl, by decide +kernel, rfl, by decide +kernel, by decide +kernel⟩
abbrev s__law_mixed : Stmt := topS 45
abbrev N__law_mixed : List Str := ["number", "turn", "first", "second"]
theorem sc__law_mixed : FnScope N__law_mixed ["number", "turn"] (defScope s__law_mixed) := ⟨rfl, rfl, rfl, by decide +kernel, rfl, by decide +kernel, by decide +kernel⟩
abbrev s__law_store : Stmt := topS 46
abbrev N__law_store : List Str := ["script", "cells", "seed", "cell"]
theorem sc__law_store : FnScope N__law_store ["script"] (defScope s__law_store) := ⟨rfl, rfl, rfl, by decide +kernel, rfl, by decide +kernel, by decide +kernel⟩
abbrev s__law_take : Stmt := topS 47
abbrev N__law_take : List Str := ["store", "many", "cell", "digit"]
theorem sc__law_take : FnScope N__law_take ["store", "many"] (defScope s__law_take) := ⟨rfl, rfl, rfl, by decide +kernel, rfl, by decide +kernel, by decide +kernel⟩
abbrev s__law_once : Stmt := topS 48
abbrev N__law_once : List Str := ["store", "many"]
theorem sc__law_once : FnScope N__law_once ["store", "many"] (defScope s__law_once) := ⟨rfl, rfl, rfl, by decide +kernel, rfl, by decide +kernel, by decide +kernel⟩
abbrev s__law_pick : Stmt := topS 49
abbrev N__law_pick : List Str := ["store", "items"]
theorem sc__law_pick : FnScope N__law_pick ["store", "items"] (defScope s__law_pick) := ⟨rfl, rfl, rfl, by decide +kernel, rfl, by decide +kernel, by decide +kernel⟩
abbrev s__law_shuffled : Stmt := topS 50
abbrev N__law_shuffled : List Str := ["store", "items", "row", "k", "other", "kept"]
theorem sc__law_shuffled : FnScope N__law_shuffled ["store", "items"] (defScope s__law_shuffled) := ⟨rfl, rfl, rfl, by decide +kernel, rfl, by decide +kernel, by decide +kernel⟩
abbrev s__law_few : Stmt := topS 51
abbrev N__law_few : List Str := ["store", "items", "count", "row", "k", "other", "kept"]
theorem sc__law_few : FnScope N__law_few ["store", "items", "count"] (defScope s__law_few) := ⟨rfl, rfl, rfl, by decide +kernel, rfl, by decide +kernel, by decide +kernel⟩
abbrev s__law_passed : Stmt := topS 52
abbrev N__law_passed : List Str := ["store", "items", "row"]
theorem sc__law_passed : FnScope N__law_passed ["store", "items"] (defScope s__law_passed) := ⟨rfl, rfl, rfl, by decide +kernel, rfl, by decide +kernel, by decide +kernel⟩
abbrev s__law_number : Stmt := topS 53
abbrev N__law_number : List Str := ["store", "low", "high", "turn"]
theorem sc__law_number : FnScope N__law_number ["store", "low", "high"] (defScope s__law_number) := ⟨rfl, rfl, rfl, by decide +kernel, rfl, by decide +kernel, by decide +kernel⟩
abbrev s__law_badnumber : Stmt := topS 54
abbrev N__law_badnumber : List Str := ["store", "low", "high", "allowed", "values"]
theorem sc__law_badnumber : FnScope N__law_badnumber ["store", "low", "high", "allowed"] (defScope s__law_badnumber) := ⟨rfl, rfl, rfl, by decide +kernel, rfl, by decide +kernel, by decide +kernel⟩
abbrev s__law_count : Stmt := topS 55
abbrev N__law_count : List Str := ["store", "high", "turn"]
theorem sc__law_count : FnScope N__law_count ["store", "high"] (defScope s__law_count) := ⟨rfl, rfl, rfl, by decide +kernel, rfl, by decide +kernel, by decide +kernel⟩
abbrev s__law_name : Stmt := topS 56
abbrev N__law_name : List Str := ["store", "letters", "signs", "count", "word", "k"]
theorem sc__law_name : FnScope N__law_name ["store"] (defScope s__law_name) := ⟨rfl, rfl, rfl, by decide +kernel, rfl, by decide +kernel, by decide +kernel⟩
abbrev s__law_names : Stmt := topS 57
abbrev N__law_names : List Str := ["store", "count", "letters", "signs", "look", "start", "step", "found", "word", "place", "menu", "k", "ahead", "last"]
theorem sc__law_names : FnScope N__law_names ["store", "count"] (defScope s__law_names) := ⟨rfl, rfl, rfl, by decide +kernel, rfl, by decide +kernel, by decide +kernel⟩
abbrev s__law_strange : Stmt := topS 58
abbrev N__law_strange : List Str := ["store", "names", "word", "turn", "k"]
theorem sc__law_strange : FnScope N__law_strange ["store", "names"] (defScope s__law_strange) := ⟨rfl, rfl, rfl, by decide +kernel, rfl, by decide +kernel, by decide +kernel⟩
abbrev s__law_isname : Stmt := topS 59
abbrev N__law_isname : List Str := ["value", "k"]
theorem sc__law_isname : FnScope N__law_isname ["value"] (defScope s__law_isname) := ⟨rfl, rfl, rfl, by decide +kernel, rfl, by decide +kernel, by decide +kernel⟩
abbrev s__law_badname : Stmt := topS 60
abbrev N__law_badname : List Str := ["store", "word", "turn", "signs", "wrong", "place"]
theorem sc__law_badname : FnScope N__law_badname ["store"] (defScope s__law_badname) := ⟨rfl, rfl, rfl, by decide +kernel, rfl, by decide +kernel, by decide +kernel⟩
abbrev s__law_bentnames : Stmt := topS 61
abbrev N__law_bentnames : List Str := ["store", "names", "row", "turn", "goal", "k", "again"]
theorem sc__law_bentnames : FnScope N__law_bentnames ["store", "names"] (defScope s__law_bentnames) := ⟨rfl, rfl, rfl, by decide +kernel, rfl, by decide +kernel, by decide +kernel⟩
abbrev s__law_namesdue : Stmt := topS 62
abbrev N__law_namesdue : List Str := ["items", "item", "k"]
theorem sc__law_namesdue : FnScope N__law_namesdue ["items"] (defScope s__law_namesdue) := ⟨rfl, rfl, rfl, by decide +kernel, rfl, by decide +kernel, by decide +kernel⟩
abbrev s__law_flat : Stmt := topS 63
abbrev N__law_flat : List Str := ["rows", "found", "row", "item"]
theorem sc__law_flat : FnScope N__law_flat ["rows"] (defScope s__law_flat) := ⟨rfl, rfl, rfl, by decide +kernel, rfl, by decide +kernel, by decide +kernel⟩
abbrev s__law_same : Stmt := topS 64
abbrev N__law_same : List Str := ["actual", "due", "k"]
theorem sc__law_same : FnScope N__law_same ["actual", "due"] (defScope s__law_same) := ⟨rfl, rfl, rfl, by decide +kernel, rfl, by decide +kernel, by decide +kernel⟩
abbrev s__law_copied : Stmt := topS 65
abbrev N__law_copied : List Str := ["value", "item"]
theorem sc__law_copied : FnScope N__law_copied ["value"] (defScope s__law_copied) := ⟨rfl, rfl, rfl, by decide +kernel, rfl, by decide +kernel, by decide +kernel⟩
abbrev s__law_onekind : Stmt := topS 66
abbrev N__law_onekind : List Str := ["error", "one", "item"]
theorem sc__law_onekind : FnScope N__law_onekind ["error"] (defScope s__law_onekind) := ⟨rfl, rfl, rfl, by decide +kernel, rfl, by decide +kernel, by decide +kernel⟩
abbrev s__law_told : Stmt := topS 67
abbrev N__law_told : List Str := ["error"]
theorem sc__law_told : FnScope N__law_told ["error"] (defScope s__law_told) := ⟨rfl, rfl, rfl, by decide +kernel, rfl, by decide +kernel, by decide +kernel⟩
abbrev s__law_many : Stmt := topS 68
abbrev N__law_many : List Str := ["count", "four", "three", "two", "k"]
theorem sc__law_many : FnScope N__law_many ["count"] (defScope s__law_many) := ⟨rfl, rfl, rfl, by decide +kernel, rfl, by decide +kernel, by decide +kernel⟩
abbrev s__law_islot : Stmt := topS 69
abbrev N__law_islot : List Str := ["value", "names", "k"]
theorem sc__law_islot : FnScope N__law_islot ["value", "names"] (defScope s__law_islot) := ⟨rfl, rfl, rfl, by decide +kernel, rfl, by decide +kernel, by decide +kernel⟩
abbrev s__law_islots : Stmt := topS 70
abbrev N__law_islots : List Str := ["value", "names", "k"]
theorem sc__law_islots : FnScope N__law_islots ["value", "names"] (defScope s__law_islots) := ⟨rfl, rfl, rfl, by decide +kernel, rfl, by decide +kernel, by decide +kernel⟩
abbrev s__law_isall : Stmt := topS 71
abbrev N__law_isall : List Str := ["rows", "names", "k"]
theorem sc__law_isall : FnScope N__law_isall ["rows", "names"] (defScope s__law_isall) := ⟨rfl, rfl, rfl, by decide +kernel, rfl, by decide +kernel, by decide +kernel⟩
abbrev s__law_answer : Stmt := topS 72
abbrev N__law_answer : List Str := ["items", "e"]
theorem sc__law_answer : FnScope N__law_answer ["items"] (defScope s__law_answer) := ⟨rfl, rfl, rfl, by decide +kernel, rfl, by decide +kernel, by decide +kernel⟩
abbrev s__law_counted : Stmt := topS 73
abbrev N__law_counted : List Str := ["number", "e"]
theorem sc__law_counted : FnScope N__law_counted ["number"] (defScope s__law_counted) := ⟨rfl, rfl, rfl, by decide +kernel, rfl, by decide +kernel, by decide +kernel⟩
abbrev s__law_asked : Stmt := topS 74
abbrev N__law_asked : List Str := ["items", "kept", "due", "told"]
theorem sc__law_asked : FnScope N__law_asked ["items"] (defScope s__law_asked) := ⟨rfl, rfl, rfl, by decide +kernel, rfl, by decide +kernel, by decide +kernel⟩
abbrev s_law : Stmt := topS 75
abbrev N_law : List Str := ["script", "store", "names", "wide", "bent", "wrong", "handed", "above", "part", "far", "k"]
theorem sc_law : FnScope N_law ["script"] (defScope s_law) := ⟨rfl, rfl, rfl, by decide +kernel, rfl, by decide +kernel, by decide +kernel⟩
abbrev s_init_BadName : Stmt := inClass (topS 2) 0
theorem sc_init_BadName : FnScope ["self", "name"] ["self", "name"] (defScope s_init_BadName) := ⟨rfl, rfl, rfl, by decide +kernel, rfl, by decide +kernel, by decide +kernel⟩
abbrev s_init_RepeatedName : Stmt := inClass (topS 3) 0
theorem sc_init_RepeatedName : FnScope ["self", "name"] ["self", "name"] (defScope s_init_RepeatedName) := ⟨rfl, rfl, rfl, by decide +kernel, rfl, by decide +kernel, by decide +kernel⟩
abbrev s_init_TooMany : Stmt := inClass (topS 5) 0
theorem sc_init_TooMany : FnScope ["self", "most"] ["self", "most"] (defScope s_init_TooMany) := ⟨rfl, rfl, rfl, by decide +kernel, rfl, by decide +kernel, by decide +kernel⟩
abbrev s_init_BadNumber : Stmt := inClass (topS 7) 0
theorem sc_init_BadNumber : FnScope ["self", "number"] ["self", "number"] (defScope s_init_BadNumber) := ⟨rfl, rfl, rfl, by decide +kernel, rfl, by decide +kernel, by decide +kernel⟩
structure TxA where
  a_divisions : Addr
  f_divisions : FuncData
  a_placings : Addr
  f_placings : FuncData
  a_is_name : Addr
  f_is_name : FuncData
  a_check_name : Addr
  f_check_name : FuncData
  a_check_whole : Addr
  f_check_whole : FuncData
  a_check_number : Addr
  f_check_number : FuncData
  a_name_tuple : Addr
  f_name_tuple : FuncData
  a_require_few : Addr
  f_require_few : FuncData
  a_all_partings : Addr
  f_all_partings : FuncData
  a_count_partings : Addr
  f_count_partings : FuncData
  a__law_mixed : Addr
  f__law_mixed : FuncData
  a__law_store : Addr
  f__law_store : FuncData
  a__law_take : Addr
  f__law_take : FuncData
  a__law_once : Addr
  f__law_once : FuncData
  a__law_pick : Addr
  f__law_pick : FuncData
  a__law_shuffled : Addr
  f__law_shuffled : FuncData
  a__law_few : Addr
  f__law_few : FuncData
  a__law_passed : Addr
  f__law_passed : FuncData
  a__law_number : Addr
  f__law_number : FuncData
  a__law_badnumber : Addr
  f__law_badnumber : FuncData
  a__law_count : Addr
  f__law_count : FuncData
  a__law_name : Addr
  f__law_name : FuncData
  a__law_names : Addr
  f__law_names : FuncData
  a__law_strange : Addr
  f__law_strange : FuncData
  a__law_isname : Addr
  f__law_isname : FuncData
  a__law_badname : Addr
  f__law_badname : FuncData
  a__law_bentnames : Addr
  f__law_bentnames : FuncData
  a__law_namesdue : Addr
  f__law_namesdue : FuncData
  a__law_flat : Addr
  f__law_flat : FuncData
  a__law_same : Addr
  f__law_same : FuncData
  a__law_copied : Addr
  f__law_copied : FuncData
  a__law_onekind : Addr
  f__law_onekind : FuncData
  a__law_told : Addr
  f__law_told : FuncData
  a__law_many : Addr
  f__law_many : FuncData
  a__law_islot : Addr
  f__law_islot : FuncData
  a__law_islots : Addr
  f__law_islots : FuncData
  a__law_isall : Addr
  f__law_isall : FuncData
  a__law_answer : Addr
  f__law_answer : FuncData
  a__law_counted : Addr
  f__law_counted : FuncData
  a__law_asked : Addr
  f__law_asked : FuncData
  a_law : Addr
  f_law : FuncData
  t_MOST_SIGNS : Tok
  t_MOST_NAMES : Tok
  t_PARTED_NAMES : Tok
  t_LETTERS : Tok
  t_SIGNS : Tok
  t_LOTS : Tok
  c_FourmetError : Addr
  c_BadName : Addr
  ai_BadName : Addr
  fi_BadName : FuncData
  c_RepeatedName : Addr
  ai_RepeatedName : Addr
  fi_RepeatedName : FuncData
  c_UnknownName : Addr
  c_TooMany : Addr
  ai_TooMany : Addr
  fi_TooMany : FuncData
  c_WrongCount : Addr
  c_BadNumber : Addr
  ai_BadNumber : Addr
  fi_BadNumber : FuncData
  c_BadSplit : Addr
  c_Clash : Addr
  c_BadText : Addr
  c_BadLine : Addr
  c_BadTelling : Addr
  c_NotInAll : Addr
  c_NotAlike : Addr
  c_Untold : Addr
  c_BadPlaces : Addr
  c_BadSpot : Addr
  c_BadParting : Addr
  c_BadPaper : Addr
  c_UnlikeNames : Addr
  c_SameTree : Addr
  c_NoTree : Addr
  c_SeveralTrees : Addr
structure Tx (K : PySem.W.Frag) (mg : Str → Option Value) (A : TxA) : Prop where
  m_divisions : mg "divisions" = some (.ref A.a_divisions)
  F_divisions : Fun K "divisions" "divisions" s_divisions A.a_divisions A.f_divisions
  b_divisions : L2.Binds K A.f_divisions ["names", "many"] []
  m_placings : mg "placings" = some (.ref A.a_placings)
  F_placings : Fun K "placings" "placings" s_placings A.a_placings A.f_placings
  b_placings : L2.Binds K A.f_placings ["lots", "name", "many"] []
  m_is_name : mg "is_name" = some (.ref A.a_is_name)
  F_is_name : Fun K "is_name" "is_name" s_is_name A.a_is_name A.f_is_name
  b_is_name : L2.Binds K A.f_is_name ["value"] []
  m_check_name : mg "check_name" = some (.ref A.a_check_name)
  F_check_name : Fun K "check_name" "check_name" s_check_name A.a_check_name A.f_check_name
  b_check_name : L2.Binds K A.f_check_name ["value"] []
  m_check_whole : mg "check_whole" = some (.ref A.a_check_whole)
  F_check_whole : Fun K "check_whole" "check_whole" s_check_whole A.a_check_whole A.f_check_whole
  b_check_whole : L2.Binds K A.f_check_whole ["value"] []
  m_check_number : mg "check_number" = some (.ref A.a_check_number)
  F_check_number : Fun K "check_number" "check_number" s_check_number A.a_check_number A.f_check_number
  b_check_number : L2.Binds K A.f_check_number ["value", "low", "high"] []
  m_name_tuple : mg "name_tuple" = some (.ref A.a_name_tuple)
  F_name_tuple : Fun K "name_tuple" "name_tuple" s_name_tuple A.a_name_tuple A.f_name_tuple
  b_name_tuple : L2.Binds K A.f_name_tuple ["names"] []
  m_require_few : mg "require_few" = some (.ref A.a_require_few)
  F_require_few : Fun K "require_few" "require_few" s_require_few A.a_require_few A.f_require_few
  b_require_few : L2.Binds K A.f_require_few ["names", "most"] []
  m_all_partings : mg "all_partings" = some (.ref A.a_all_partings)
  F_all_partings : Fun K "all_partings" "all_partings" s_all_partings A.a_all_partings A.f_all_partings
  b_all_partings : L2.Binds K A.f_all_partings ["names"] []
  m_count_partings : mg "count_partings" = some (.ref A.a_count_partings)
  F_count_partings : Fun K "count_partings" "count_partings" s_count_partings A.a_count_partings A.f_count_partings
  b_count_partings : L2.Binds K A.f_count_partings ["count"] []
  m__law_mixed : mg "_law_mixed" = some (.ref A.a__law_mixed)
  F__law_mixed : Fun K "_law_mixed" "_law_mixed" s__law_mixed A.a__law_mixed A.f__law_mixed
  b__law_mixed : L2.Binds K A.f__law_mixed ["number", "turn"] []
  m__law_store : mg "_law_store" = some (.ref A.a__law_store)
  F__law_store : Fun K "_law_store" "_law_store" s__law_store A.a__law_store A.f__law_store
  b__law_store : L2.Binds K A.f__law_store ["script"] []
  m__law_take : mg "_law_take" = some (.ref A.a__law_take)
  F__law_take : Fun K "_law_take" "_law_take" s__law_take A.a__law_take A.f__law_take
  b__law_take : L2.Binds K A.f__law_take ["store", "many"] []
  m__law_once : mg "_law_once" = some (.ref A.a__law_once)
  F__law_once : Fun K "_law_once" "_law_once" s__law_once A.a__law_once A.f__law_once
  b__law_once : L2.Binds K A.f__law_once ["store", "many"] []
  m__law_pick : mg "_law_pick" = some (.ref A.a__law_pick)
  F__law_pick : Fun K "_law_pick" "_law_pick" s__law_pick A.a__law_pick A.f__law_pick
  b__law_pick : L2.Binds K A.f__law_pick ["store", "items"] []
  m__law_shuffled : mg "_law_shuffled" = some (.ref A.a__law_shuffled)
  F__law_shuffled : Fun K "_law_shuffled" "_law_shuffled" s__law_shuffled A.a__law_shuffled A.f__law_shuffled
  b__law_shuffled : L2.Binds K A.f__law_shuffled ["store", "items"] []
  m__law_few : mg "_law_few" = some (.ref A.a__law_few)
  F__law_few : Fun K "_law_few" "_law_few" s__law_few A.a__law_few A.f__law_few
  b__law_few : L2.Binds K A.f__law_few ["store", "items", "count"] []
  m__law_passed : mg "_law_passed" = some (.ref A.a__law_passed)
  F__law_passed : Fun K "_law_passed" "_law_passed" s__law_passed A.a__law_passed A.f__law_passed
  b__law_passed : L2.Binds K A.f__law_passed ["store", "items"] []
  m__law_number : mg "_law_number" = some (.ref A.a__law_number)
  F__law_number : Fun K "_law_number" "_law_number" s__law_number A.a__law_number A.f__law_number
  b__law_number : L2.Binds K A.f__law_number ["store", "low", "high"] []
  m__law_badnumber : mg "_law_badnumber" = some (.ref A.a__law_badnumber)
  F__law_badnumber : Fun K "_law_badnumber" "_law_badnumber" s__law_badnumber A.a__law_badnumber A.f__law_badnumber
  b__law_badnumber : L2.Binds K A.f__law_badnumber ["store", "low", "high", "allowed"] []
  m__law_count : mg "_law_count" = some (.ref A.a__law_count)
  F__law_count : Fun K "_law_count" "_law_count" s__law_count A.a__law_count A.f__law_count
  b__law_count : L2.Binds K A.f__law_count ["store", "high"] []
  m__law_name : mg "_law_name" = some (.ref A.a__law_name)
  F__law_name : Fun K "_law_name" "_law_name" s__law_name A.a__law_name A.f__law_name
  b__law_name : L2.Binds K A.f__law_name ["store"] []
  m__law_names : mg "_law_names" = some (.ref A.a__law_names)
  F__law_names : Fun K "_law_names" "_law_names" s__law_names A.a__law_names A.f__law_names
  b__law_names : L2.Binds K A.f__law_names ["store", "count"] []
  m__law_strange : mg "_law_strange" = some (.ref A.a__law_strange)
  F__law_strange : Fun K "_law_strange" "_law_strange" s__law_strange A.a__law_strange A.f__law_strange
  b__law_strange : L2.Binds K A.f__law_strange ["store", "names"] []
  m__law_isname : mg "_law_isname" = some (.ref A.a__law_isname)
  F__law_isname : Fun K "_law_isname" "_law_isname" s__law_isname A.a__law_isname A.f__law_isname
  b__law_isname : L2.Binds K A.f__law_isname ["value"] []
  m__law_badname : mg "_law_badname" = some (.ref A.a__law_badname)
  F__law_badname : Fun K "_law_badname" "_law_badname" s__law_badname A.a__law_badname A.f__law_badname
  b__law_badname : L2.Binds K A.f__law_badname ["store"] []
  m__law_bentnames : mg "_law_bentnames" = some (.ref A.a__law_bentnames)
  F__law_bentnames : Fun K "_law_bentnames" "_law_bentnames" s__law_bentnames A.a__law_bentnames A.f__law_bentnames
  b__law_bentnames : L2.Binds K A.f__law_bentnames ["store", "names"] []
  m__law_namesdue : mg "_law_namesdue" = some (.ref A.a__law_namesdue)
  F__law_namesdue : Fun K "_law_namesdue" "_law_namesdue" s__law_namesdue A.a__law_namesdue A.f__law_namesdue
  b__law_namesdue : L2.Binds K A.f__law_namesdue ["items"] []
  m__law_flat : mg "_law_flat" = some (.ref A.a__law_flat)
  F__law_flat : Fun K "_law_flat" "_law_flat" s__law_flat A.a__law_flat A.f__law_flat
  b__law_flat : L2.Binds K A.f__law_flat ["rows"] []
  m__law_same : mg "_law_same" = some (.ref A.a__law_same)
  F__law_same : Fun K "_law_same" "_law_same" s__law_same A.a__law_same A.f__law_same
  b__law_same : L2.Binds K A.f__law_same ["actual", "due"] []
  m__law_copied : mg "_law_copied" = some (.ref A.a__law_copied)
  F__law_copied : Fun K "_law_copied" "_law_copied" s__law_copied A.a__law_copied A.f__law_copied
  b__law_copied : L2.Binds K A.f__law_copied ["value"] []
  m__law_onekind : mg "_law_onekind" = some (.ref A.a__law_onekind)
  F__law_onekind : Fun K "_law_onekind" "_law_onekind" s__law_onekind A.a__law_onekind A.f__law_onekind
  b__law_onekind : L2.Binds K A.f__law_onekind ["error"] []
  m__law_told : mg "_law_told" = some (.ref A.a__law_told)
  F__law_told : Fun K "_law_told" "_law_told" s__law_told A.a__law_told A.f__law_told
  b__law_told : L2.Binds K A.f__law_told ["error"] []
  m__law_many : mg "_law_many" = some (.ref A.a__law_many)
  F__law_many : Fun K "_law_many" "_law_many" s__law_many A.a__law_many A.f__law_many
  b__law_many : L2.Binds K A.f__law_many ["count"] []
  m__law_islot : mg "_law_islot" = some (.ref A.a__law_islot)
  F__law_islot : Fun K "_law_islot" "_law_islot" s__law_islot A.a__law_islot A.f__law_islot
  b__law_islot : L2.Binds K A.f__law_islot ["value", "names"] []
  m__law_islots : mg "_law_islots" = some (.ref A.a__law_islots)
  F__law_islots : Fun K "_law_islots" "_law_islots" s__law_islots A.a__law_islots A.f__law_islots
  b__law_islots : L2.Binds K A.f__law_islots ["value", "names"] []
  m__law_isall : mg "_law_isall" = some (.ref A.a__law_isall)
  F__law_isall : Fun K "_law_isall" "_law_isall" s__law_isall A.a__law_isall A.f__law_isall
  b__law_isall : L2.Binds K A.f__law_isall ["rows", "names"] []
  m__law_answer : mg "_law_answer" = some (.ref A.a__law_answer)
  F__law_answer : Fun K "_law_answer" "_law_answer" s__law_answer A.a__law_answer A.f__law_answer
  b__law_answer : L2.Binds K A.f__law_answer ["items"] []
  m__law_counted : mg "_law_counted" = some (.ref A.a__law_counted)
  F__law_counted : Fun K "_law_counted" "_law_counted" s__law_counted A.a__law_counted A.f__law_counted
  b__law_counted : L2.Binds K A.f__law_counted ["number"] []
  m__law_asked : mg "_law_asked" = some (.ref A.a__law_asked)
  F__law_asked : Fun K "_law_asked" "_law_asked" s__law_asked A.a__law_asked A.f__law_asked
  b__law_asked : L2.Binds K A.f__law_asked ["items"] []
  m_law : mg "law" = some (.ref A.a_law)
  F_law : Fun K "law" "law" s_law A.a_law A.f_law
  b_law : L2.Binds K A.f_law ["script"] []
  m_MOST_SIGNS : mg "MOST_SIGNS" = some (.int 8 A.t_MOST_SIGNS)
  m_MOST_NAMES : mg "MOST_NAMES" = some (.int 12 A.t_MOST_NAMES)
  m_PARTED_NAMES : mg "PARTED_NAMES" = some (.int 7 A.t_PARTED_NAMES)
  m_LETTERS : mg "LETTERS" = some (.str "abcdefghijklmnopqrstuvwxyz" A.t_LETTERS)
  m_SIGNS : mg "SIGNS" = some (.str "abcdefghijklmnopqrstuvwxyz0123456789" A.t_SIGNS)
  m_LOTS : mg "LOTS" = some (.int 4 A.t_LOTS)
  kb_all_partings_names : KB K A.f_all_partings ["names"] ["names"] keepL
  kb_count_partings_count : KB K A.f_count_partings ["count"] ["count"] keepL
  m_len : mg "len" = none
  m_abs : mg "abs" = none
  m_int : mg "int" = none
  m_str : mg "str" = none
  m_list : mg "list" = none
  m_tuple : mg "tuple" = none
  m_all : mg "all" = none
  m_isinstance : mg "isinstance" = none
  m_bool : mg "bool" = none
  m_range : mg "range" = none
  m_sorted : mg "sorted" = none
  m_max : mg "max" = none
  m_min : mg "min" = none
  m_ValueError : mg "ValueError" = none
  m_set : mg "set" = none
  m_enumerate : mg "enumerate" = none
  m_FourmetError : mg "FourmetError" = some (.ref A.c_FourmetError)
  B_FE : BaseF K A.c_FourmetError
  m_BadName : mg "BadName" = some (.ref A.c_BadName)
  C_BadName : ClsF K A.c_FourmetError A.c_BadName
  n_BadName_most : PySem.W.findIn K (.ref A.c_BadName) "most" = some none
  n_BadName_name : PySem.W.findIn K (.ref A.c_BadName) "name" = some none
  n_BadName_number : PySem.W.findIn K (.ref A.c_BadName) "number" = some none
  i_BadName : PySem.W.findIn K (.ref A.c_BadName) "__init__" = some (some (.ref A.ai_BadName))
  t_BadName : PySem.W.typeIn K (.ref A.ai_BadName) = some (.type "function")
  Fi_BadName : Fun K "__init__" "BadName.__init__" s_init_BadName A.ai_BadName A.fi_BadName
  bi_BadName : L2.Binds K A.fi_BadName ["self", "name"] []
  s_BadName_RepeatedName : PySem.W.subIn K (.ref A.c_BadName) (.ref A.c_RepeatedName) = some false
  s_BadName_UnknownName : PySem.W.subIn K (.ref A.c_BadName) (.ref A.c_UnknownName) = some false
  s_BadName_TooMany : PySem.W.subIn K (.ref A.c_BadName) (.ref A.c_TooMany) = some false
  s_BadName_WrongCount : PySem.W.subIn K (.ref A.c_BadName) (.ref A.c_WrongCount) = some false
  s_BadName_BadNumber : PySem.W.subIn K (.ref A.c_BadName) (.ref A.c_BadNumber) = some false
  s_BadName_BadSplit : PySem.W.subIn K (.ref A.c_BadName) (.ref A.c_BadSplit) = some false
  s_BadName_Clash : PySem.W.subIn K (.ref A.c_BadName) (.ref A.c_Clash) = some false
  s_BadName_BadText : PySem.W.subIn K (.ref A.c_BadName) (.ref A.c_BadText) = some false
  s_BadName_BadLine : PySem.W.subIn K (.ref A.c_BadName) (.ref A.c_BadLine) = some false
  s_BadName_BadTelling : PySem.W.subIn K (.ref A.c_BadName) (.ref A.c_BadTelling) = some false
  s_BadName_NotInAll : PySem.W.subIn K (.ref A.c_BadName) (.ref A.c_NotInAll) = some false
  s_BadName_NotAlike : PySem.W.subIn K (.ref A.c_BadName) (.ref A.c_NotAlike) = some false
  s_BadName_Untold : PySem.W.subIn K (.ref A.c_BadName) (.ref A.c_Untold) = some false
  s_BadName_BadPlaces : PySem.W.subIn K (.ref A.c_BadName) (.ref A.c_BadPlaces) = some false
  s_BadName_BadSpot : PySem.W.subIn K (.ref A.c_BadName) (.ref A.c_BadSpot) = some false
  s_BadName_BadParting : PySem.W.subIn K (.ref A.c_BadName) (.ref A.c_BadParting) = some false
  s_BadName_BadPaper : PySem.W.subIn K (.ref A.c_BadName) (.ref A.c_BadPaper) = some false
  s_BadName_UnlikeNames : PySem.W.subIn K (.ref A.c_BadName) (.ref A.c_UnlikeNames) = some false
  s_BadName_SameTree : PySem.W.subIn K (.ref A.c_BadName) (.ref A.c_SameTree) = some false
  s_BadName_NoTree : PySem.W.subIn K (.ref A.c_BadName) (.ref A.c_NoTree) = some false
  s_BadName_SeveralTrees : PySem.W.subIn K (.ref A.c_BadName) (.ref A.c_SeveralTrees) = some false
  m_RepeatedName : mg "RepeatedName" = some (.ref A.c_RepeatedName)
  C_RepeatedName : ClsF K A.c_FourmetError A.c_RepeatedName
  n_RepeatedName_most : PySem.W.findIn K (.ref A.c_RepeatedName) "most" = some none
  n_RepeatedName_name : PySem.W.findIn K (.ref A.c_RepeatedName) "name" = some none
  n_RepeatedName_number : PySem.W.findIn K (.ref A.c_RepeatedName) "number" = some none
  i_RepeatedName : PySem.W.findIn K (.ref A.c_RepeatedName) "__init__" = some (some (.ref A.ai_RepeatedName))
  t_RepeatedName : PySem.W.typeIn K (.ref A.ai_RepeatedName) = some (.type "function")
  Fi_RepeatedName : Fun K "__init__" "RepeatedName.__init__" s_init_RepeatedName A.ai_RepeatedName A.fi_RepeatedName
  bi_RepeatedName : L2.Binds K A.fi_RepeatedName ["self", "name"] []
  s_RepeatedName_BadName : PySem.W.subIn K (.ref A.c_RepeatedName) (.ref A.c_BadName) = some false
  s_RepeatedName_UnknownName : PySem.W.subIn K (.ref A.c_RepeatedName) (.ref A.c_UnknownName) = some false
  s_RepeatedName_TooMany : PySem.W.subIn K (.ref A.c_RepeatedName) (.ref A.c_TooMany) = some false
  s_RepeatedName_WrongCount : PySem.W.subIn K (.ref A.c_RepeatedName) (.ref A.c_WrongCount) = some false
  s_RepeatedName_BadNumber : PySem.W.subIn K (.ref A.c_RepeatedName) (.ref A.c_BadNumber) = some false
  s_RepeatedName_BadSplit : PySem.W.subIn K (.ref A.c_RepeatedName) (.ref A.c_BadSplit) = some false
  s_RepeatedName_Clash : PySem.W.subIn K (.ref A.c_RepeatedName) (.ref A.c_Clash) = some false
  s_RepeatedName_BadText : PySem.W.subIn K (.ref A.c_RepeatedName) (.ref A.c_BadText) = some false
  s_RepeatedName_BadLine : PySem.W.subIn K (.ref A.c_RepeatedName) (.ref A.c_BadLine) = some false
  s_RepeatedName_BadTelling : PySem.W.subIn K (.ref A.c_RepeatedName) (.ref A.c_BadTelling) = some false
  s_RepeatedName_NotInAll : PySem.W.subIn K (.ref A.c_RepeatedName) (.ref A.c_NotInAll) = some false
  s_RepeatedName_NotAlike : PySem.W.subIn K (.ref A.c_RepeatedName) (.ref A.c_NotAlike) = some false
  s_RepeatedName_Untold : PySem.W.subIn K (.ref A.c_RepeatedName) (.ref A.c_Untold) = some false
  s_RepeatedName_BadPlaces : PySem.W.subIn K (.ref A.c_RepeatedName) (.ref A.c_BadPlaces) = some false
  s_RepeatedName_BadSpot : PySem.W.subIn K (.ref A.c_RepeatedName) (.ref A.c_BadSpot) = some false
  s_RepeatedName_BadParting : PySem.W.subIn K (.ref A.c_RepeatedName) (.ref A.c_BadParting) = some false
  s_RepeatedName_BadPaper : PySem.W.subIn K (.ref A.c_RepeatedName) (.ref A.c_BadPaper) = some false
  s_RepeatedName_UnlikeNames : PySem.W.subIn K (.ref A.c_RepeatedName) (.ref A.c_UnlikeNames) = some false
  s_RepeatedName_SameTree : PySem.W.subIn K (.ref A.c_RepeatedName) (.ref A.c_SameTree) = some false
  s_RepeatedName_NoTree : PySem.W.subIn K (.ref A.c_RepeatedName) (.ref A.c_NoTree) = some false
  s_RepeatedName_SeveralTrees : PySem.W.subIn K (.ref A.c_RepeatedName) (.ref A.c_SeveralTrees) = some false
  m_UnknownName : mg "UnknownName" = some (.ref A.c_UnknownName)
  D_UnknownName : PySem.W.isClsIn K A.c_UnknownName = true ∧ PySem.W.typeIn K (.ref A.c_UnknownName) = some (.type "type")
  m_TooMany : mg "TooMany" = some (.ref A.c_TooMany)
  C_TooMany : ClsF K A.c_FourmetError A.c_TooMany
  n_TooMany_most : PySem.W.findIn K (.ref A.c_TooMany) "most" = some none
  n_TooMany_name : PySem.W.findIn K (.ref A.c_TooMany) "name" = some none
  n_TooMany_number : PySem.W.findIn K (.ref A.c_TooMany) "number" = some none
  i_TooMany : PySem.W.findIn K (.ref A.c_TooMany) "__init__" = some (some (.ref A.ai_TooMany))
  t_TooMany : PySem.W.typeIn K (.ref A.ai_TooMany) = some (.type "function")
  Fi_TooMany : Fun K "__init__" "TooMany.__init__" s_init_TooMany A.ai_TooMany A.fi_TooMany
  bi_TooMany : L2.Binds K A.fi_TooMany ["self", "most"] []
  s_TooMany_BadName : PySem.W.subIn K (.ref A.c_TooMany) (.ref A.c_BadName) = some false
  s_TooMany_RepeatedName : PySem.W.subIn K (.ref A.c_TooMany) (.ref A.c_RepeatedName) = some false
  s_TooMany_UnknownName : PySem.W.subIn K (.ref A.c_TooMany) (.ref A.c_UnknownName) = some false
  s_TooMany_WrongCount : PySem.W.subIn K (.ref A.c_TooMany) (.ref A.c_WrongCount) = some false
  s_TooMany_BadNumber : PySem.W.subIn K (.ref A.c_TooMany) (.ref A.c_BadNumber) = some false
  s_TooMany_BadSplit : PySem.W.subIn K (.ref A.c_TooMany) (.ref A.c_BadSplit) = some false
  s_TooMany_Clash : PySem.W.subIn K (.ref A.c_TooMany) (.ref A.c_Clash) = some false
  s_TooMany_BadText : PySem.W.subIn K (.ref A.c_TooMany) (.ref A.c_BadText) = some false
  s_TooMany_BadLine : PySem.W.subIn K (.ref A.c_TooMany) (.ref A.c_BadLine) = some false
  s_TooMany_BadTelling : PySem.W.subIn K (.ref A.c_TooMany) (.ref A.c_BadTelling) = some false
  s_TooMany_NotInAll : PySem.W.subIn K (.ref A.c_TooMany) (.ref A.c_NotInAll) = some false
  s_TooMany_NotAlike : PySem.W.subIn K (.ref A.c_TooMany) (.ref A.c_NotAlike) = some false
  s_TooMany_Untold : PySem.W.subIn K (.ref A.c_TooMany) (.ref A.c_Untold) = some false
  s_TooMany_BadPlaces : PySem.W.subIn K (.ref A.c_TooMany) (.ref A.c_BadPlaces) = some false
  s_TooMany_BadSpot : PySem.W.subIn K (.ref A.c_TooMany) (.ref A.c_BadSpot) = some false
  s_TooMany_BadParting : PySem.W.subIn K (.ref A.c_TooMany) (.ref A.c_BadParting) = some false
  s_TooMany_BadPaper : PySem.W.subIn K (.ref A.c_TooMany) (.ref A.c_BadPaper) = some false
  s_TooMany_UnlikeNames : PySem.W.subIn K (.ref A.c_TooMany) (.ref A.c_UnlikeNames) = some false
  s_TooMany_SameTree : PySem.W.subIn K (.ref A.c_TooMany) (.ref A.c_SameTree) = some false
  s_TooMany_NoTree : PySem.W.subIn K (.ref A.c_TooMany) (.ref A.c_NoTree) = some false
  s_TooMany_SeveralTrees : PySem.W.subIn K (.ref A.c_TooMany) (.ref A.c_SeveralTrees) = some false
  m_WrongCount : mg "WrongCount" = some (.ref A.c_WrongCount)
  D_WrongCount : PySem.W.isClsIn K A.c_WrongCount = true ∧ PySem.W.typeIn K (.ref A.c_WrongCount) = some (.type "type")
  m_BadNumber : mg "BadNumber" = some (.ref A.c_BadNumber)
  C_BadNumber : ClsF K A.c_FourmetError A.c_BadNumber
  n_BadNumber_most : PySem.W.findIn K (.ref A.c_BadNumber) "most" = some none
  n_BadNumber_name : PySem.W.findIn K (.ref A.c_BadNumber) "name" = some none
  n_BadNumber_number : PySem.W.findIn K (.ref A.c_BadNumber) "number" = some none
  i_BadNumber : PySem.W.findIn K (.ref A.c_BadNumber) "__init__" = some (some (.ref A.ai_BadNumber))
  t_BadNumber : PySem.W.typeIn K (.ref A.ai_BadNumber) = some (.type "function")
  Fi_BadNumber : Fun K "__init__" "BadNumber.__init__" s_init_BadNumber A.ai_BadNumber A.fi_BadNumber
  bi_BadNumber : L2.Binds K A.fi_BadNumber ["self", "number"] []
  s_BadNumber_BadName : PySem.W.subIn K (.ref A.c_BadNumber) (.ref A.c_BadName) = some false
  s_BadNumber_RepeatedName : PySem.W.subIn K (.ref A.c_BadNumber) (.ref A.c_RepeatedName) = some false
  s_BadNumber_UnknownName : PySem.W.subIn K (.ref A.c_BadNumber) (.ref A.c_UnknownName) = some false
  s_BadNumber_TooMany : PySem.W.subIn K (.ref A.c_BadNumber) (.ref A.c_TooMany) = some false
  s_BadNumber_WrongCount : PySem.W.subIn K (.ref A.c_BadNumber) (.ref A.c_WrongCount) = some false
  s_BadNumber_BadSplit : PySem.W.subIn K (.ref A.c_BadNumber) (.ref A.c_BadSplit) = some false
  s_BadNumber_Clash : PySem.W.subIn K (.ref A.c_BadNumber) (.ref A.c_Clash) = some false
  s_BadNumber_BadText : PySem.W.subIn K (.ref A.c_BadNumber) (.ref A.c_BadText) = some false
  s_BadNumber_BadLine : PySem.W.subIn K (.ref A.c_BadNumber) (.ref A.c_BadLine) = some false
  s_BadNumber_BadTelling : PySem.W.subIn K (.ref A.c_BadNumber) (.ref A.c_BadTelling) = some false
  s_BadNumber_NotInAll : PySem.W.subIn K (.ref A.c_BadNumber) (.ref A.c_NotInAll) = some false
  s_BadNumber_NotAlike : PySem.W.subIn K (.ref A.c_BadNumber) (.ref A.c_NotAlike) = some false
  s_BadNumber_Untold : PySem.W.subIn K (.ref A.c_BadNumber) (.ref A.c_Untold) = some false
  s_BadNumber_BadPlaces : PySem.W.subIn K (.ref A.c_BadNumber) (.ref A.c_BadPlaces) = some false
  s_BadNumber_BadSpot : PySem.W.subIn K (.ref A.c_BadNumber) (.ref A.c_BadSpot) = some false
  s_BadNumber_BadParting : PySem.W.subIn K (.ref A.c_BadNumber) (.ref A.c_BadParting) = some false
  s_BadNumber_BadPaper : PySem.W.subIn K (.ref A.c_BadNumber) (.ref A.c_BadPaper) = some false
  s_BadNumber_UnlikeNames : PySem.W.subIn K (.ref A.c_BadNumber) (.ref A.c_UnlikeNames) = some false
  s_BadNumber_SameTree : PySem.W.subIn K (.ref A.c_BadNumber) (.ref A.c_SameTree) = some false
  s_BadNumber_NoTree : PySem.W.subIn K (.ref A.c_BadNumber) (.ref A.c_NoTree) = some false
  s_BadNumber_SeveralTrees : PySem.W.subIn K (.ref A.c_BadNumber) (.ref A.c_SeveralTrees) = some false
  m_BadSplit : mg "BadSplit" = some (.ref A.c_BadSplit)
  D_BadSplit : PySem.W.isClsIn K A.c_BadSplit = true ∧ PySem.W.typeIn K (.ref A.c_BadSplit) = some (.type "type")
  m_Clash : mg "Clash" = some (.ref A.c_Clash)
  D_Clash : PySem.W.isClsIn K A.c_Clash = true ∧ PySem.W.typeIn K (.ref A.c_Clash) = some (.type "type")
  m_BadText : mg "BadText" = some (.ref A.c_BadText)
  D_BadText : PySem.W.isClsIn K A.c_BadText = true ∧ PySem.W.typeIn K (.ref A.c_BadText) = some (.type "type")
  m_BadLine : mg "BadLine" = some (.ref A.c_BadLine)
  D_BadLine : PySem.W.isClsIn K A.c_BadLine = true ∧ PySem.W.typeIn K (.ref A.c_BadLine) = some (.type "type")
  m_BadTelling : mg "BadTelling" = some (.ref A.c_BadTelling)
  D_BadTelling : PySem.W.isClsIn K A.c_BadTelling = true ∧ PySem.W.typeIn K (.ref A.c_BadTelling) = some (.type "type")
  m_NotInAll : mg "NotInAll" = some (.ref A.c_NotInAll)
  D_NotInAll : PySem.W.isClsIn K A.c_NotInAll = true ∧ PySem.W.typeIn K (.ref A.c_NotInAll) = some (.type "type")
  m_NotAlike : mg "NotAlike" = some (.ref A.c_NotAlike)
  D_NotAlike : PySem.W.isClsIn K A.c_NotAlike = true ∧ PySem.W.typeIn K (.ref A.c_NotAlike) = some (.type "type")
  m_Untold : mg "Untold" = some (.ref A.c_Untold)
  D_Untold : PySem.W.isClsIn K A.c_Untold = true ∧ PySem.W.typeIn K (.ref A.c_Untold) = some (.type "type")
  m_BadPlaces : mg "BadPlaces" = some (.ref A.c_BadPlaces)
  D_BadPlaces : PySem.W.isClsIn K A.c_BadPlaces = true ∧ PySem.W.typeIn K (.ref A.c_BadPlaces) = some (.type "type")
  m_BadSpot : mg "BadSpot" = some (.ref A.c_BadSpot)
  D_BadSpot : PySem.W.isClsIn K A.c_BadSpot = true ∧ PySem.W.typeIn K (.ref A.c_BadSpot) = some (.type "type")
  m_BadParting : mg "BadParting" = some (.ref A.c_BadParting)
  D_BadParting : PySem.W.isClsIn K A.c_BadParting = true ∧ PySem.W.typeIn K (.ref A.c_BadParting) = some (.type "type")
  m_BadPaper : mg "BadPaper" = some (.ref A.c_BadPaper)
  D_BadPaper : PySem.W.isClsIn K A.c_BadPaper = true ∧ PySem.W.typeIn K (.ref A.c_BadPaper) = some (.type "type")
  m_UnlikeNames : mg "UnlikeNames" = some (.ref A.c_UnlikeNames)
  D_UnlikeNames : PySem.W.isClsIn K A.c_UnlikeNames = true ∧ PySem.W.typeIn K (.ref A.c_UnlikeNames) = some (.type "type")
  m_SameTree : mg "SameTree" = some (.ref A.c_SameTree)
  D_SameTree : PySem.W.isClsIn K A.c_SameTree = true ∧ PySem.W.typeIn K (.ref A.c_SameTree) = some (.type "type")
  m_NoTree : mg "NoTree" = some (.ref A.c_NoTree)
  D_NoTree : PySem.W.isClsIn K A.c_NoTree = true ∧ PySem.W.typeIn K (.ref A.c_NoTree) = some (.type "type")
  m_SeveralTrees : mg "SeveralTrees" = some (.ref A.c_SeveralTrees)
  D_SeveralTrees : PySem.W.isClsIn K A.c_SeveralTrees = true ∧ PySem.W.typeIn K (.ref A.c_SeveralTrees) = some (.type "type")
def kinds : List EK := [.badName, .repeatedName, .tooMany, .badNumber]
def cA (A : TxA) : EK → Addr
  | .badName => A.c_BadName
  | .repeatedName => A.c_RepeatedName
  | .unknownName => A.c_UnknownName
  | .tooMany => A.c_TooMany
  | .wrongCount => A.c_WrongCount
  | .badNumber => A.c_BadNumber
  | .badSplit => A.c_BadSplit
  | .clash => A.c_Clash
  | .badText => A.c_BadText
  | .badLine => A.c_BadLine
  | .badTelling => A.c_BadTelling
  | .notInAll => A.c_NotInAll
  | .notAlike => A.c_NotAlike
  | .untold => A.c_Untold
  | .badPlaces => A.c_BadPlaces
  | .badSpot => A.c_BadSpot
  | .badParting => A.c_BadParting
  | .badPaper => A.c_BadPaper
  | .unlikeNames => A.c_UnlikeNames
  | .sameTree => A.c_SameTree
  | .noTree => A.c_NoTree
  | .severalTrees => A.c_SeveralTrees
section
variable {P : Program} {w : World} {K : PySem.W.Frag} {mg : Str → Option Value} {base : Heap} {A : TxA}
theorem Tx.clsF (T : Tx K mg A) {k : EK} (hk : k ∈ kinds) : ClsF K A.c_FourmetError (cA A k) := by
  simp only [kinds, List.mem_cons, List.not_mem_nil, or_false] at hk
  rcases hk with rfl | rfl | rfl | rfl
  · exact T.C_BadName
  · exact T.C_RepeatedName
  · exact T.C_TooMany
  · exact T.C_BadNumber
theorem Tx.exm (T : Tx K mg A) {k : EK} (hk : k ∈ kinds) : PySem.W.exmOne K (.ref (cA A k)) (.ref A.c_FourmetError) = some true := exm_fe (T.clsF hk) T.B_FE
theorem Tx.fe (T : Tx K mg A) {k : EK} (hk : k ∈ kinds) : errKit K (cA A k) (.cls A.c_FourmetError) = some true := kit_fe (T.clsF hk) T.B_FE
theorem Tx.ve (T : Tx K mg A) {k : EK} (hk : k ∈ kinds) : errKit K (cA A k) (.ty "ValueError") = some true := kit_ve (T.clsF hk)
theorem Tx.p_BadName (T : Tx K mg A) {k : EK} (hk : k ∈ kinds) : errKit K (cA A k) (.cls A.c_BadName) = some (decide (k = .badName)) := by
  simp only [kinds, List.mem_cons, List.not_mem_nil, or_false] at hk
  rcases hk with rfl | rfl | rfl | rfl
  · exact kit_pair T.C_BadName T.C_BadName T.C_BadName.ss
  · exact kit_pair T.C_RepeatedName T.C_BadName T.s_RepeatedName_BadName
  · exact kit_pair T.C_TooMany T.C_BadName T.s_TooMany_BadName
  · exact kit_pair T.C_BadNumber T.C_BadName T.s_BadNumber_BadName
theorem Tx.p_RepeatedName (T : Tx K mg A) {k : EK} (hk : k ∈ kinds) : errKit K (cA A k) (.cls A.c_RepeatedName) = some (decide (k = .repeatedName)) := by
  simp only [kinds, List.mem_cons, List.not_mem_nil, or_false] at hk
  rcases hk with rfl | rfl | rfl | rfl
  · exact kit_pair T.C_BadName T.C_RepeatedName T.s_BadName_RepeatedName
  · exact kit_pair T.C_RepeatedName T.C_RepeatedName T.C_RepeatedName.ss
  · exact kit_pair T.C_TooMany T.C_RepeatedName T.s_TooMany_RepeatedName
  · exact kit_pair T.C_BadNumber T.C_RepeatedName T.s_BadNumber_RepeatedName
theorem Tx.p_UnknownName (T : Tx K mg A) {k : EK} (hk : k ∈ kinds) : errKit K (cA A k) (.cls A.c_UnknownName) = some (decide (k = .unknownName)) := by
  simp only [kinds, List.mem_cons, List.not_mem_nil, or_false] at hk
  rcases hk with rfl | rfl | rfl | rfl
  · exact kit_one T.D_UnknownName.1 T.D_UnknownName.2 T.C_BadName.ss T.s_BadName_UnknownName
  · exact kit_one T.D_UnknownName.1 T.D_UnknownName.2 T.C_RepeatedName.ss T.s_RepeatedName_UnknownName
  · exact kit_one T.D_UnknownName.1 T.D_UnknownName.2 T.C_TooMany.ss T.s_TooMany_UnknownName
  · exact kit_one T.D_UnknownName.1 T.D_UnknownName.2 T.C_BadNumber.ss T.s_BadNumber_UnknownName
theorem Tx.p_TooMany (T : Tx K mg A) {k : EK} (hk : k ∈ kinds) : errKit K (cA A k) (.cls A.c_TooMany) = some (decide (k = .tooMany)) := by
  simp only [kinds, List.mem_cons, List.not_mem_nil, or_false] at hk
  rcases hk with rfl | rfl | rfl | rfl
  · exact kit_pair T.C_BadName T.C_TooMany T.s_BadName_TooMany
  · exact kit_pair T.C_RepeatedName T.C_TooMany T.s_RepeatedName_TooMany
  · exact kit_pair T.C_TooMany T.C_TooMany T.C_TooMany.ss
  · exact kit_pair T.C_BadNumber T.C_TooMany T.s_BadNumber_TooMany
theorem Tx.p_WrongCount (T : Tx K mg A) {k : EK} (hk : k ∈ kinds) : errKit K (cA A k) (.cls A.c_WrongCount) = some (decide (k = .wrongCount)) := by
  simp only [kinds, List.mem_cons, List.not_mem_nil, or_false] at hk
  rcases hk with rfl | rfl | rfl | rfl
  · exact kit_one T.D_WrongCount.1 T.D_WrongCount.2 T.C_BadName.ss T.s_BadName_WrongCount
  · exact kit_one T.D_WrongCount.1 T.D_WrongCount.2 T.C_RepeatedName.ss T.s_RepeatedName_WrongCount
  · exact kit_one T.D_WrongCount.1 T.D_WrongCount.2 T.C_TooMany.ss T.s_TooMany_WrongCount
  · exact kit_one T.D_WrongCount.1 T.D_WrongCount.2 T.C_BadNumber.ss T.s_BadNumber_WrongCount
theorem Tx.p_BadNumber (T : Tx K mg A) {k : EK} (hk : k ∈ kinds) : errKit K (cA A k) (.cls A.c_BadNumber) = some (decide (k = .badNumber)) := by
  simp only [kinds, List.mem_cons, List.not_mem_nil, or_false] at hk
  rcases hk with rfl | rfl | rfl | rfl
  · exact kit_pair T.C_BadName T.C_BadNumber T.s_BadName_BadNumber
  · exact kit_pair T.C_RepeatedName T.C_BadNumber T.s_RepeatedName_BadNumber
  · exact kit_pair T.C_TooMany T.C_BadNumber T.s_TooMany_BadNumber
  · exact kit_pair T.C_BadNumber T.C_BadNumber T.C_BadNumber.ss
theorem Tx.p_BadSplit (T : Tx K mg A) {k : EK} (hk : k ∈ kinds) : errKit K (cA A k) (.cls A.c_BadSplit) = some (decide (k = .badSplit)) := by
  simp only [kinds, List.mem_cons, List.not_mem_nil, or_false] at hk
  rcases hk with rfl | rfl | rfl | rfl
  · exact kit_one T.D_BadSplit.1 T.D_BadSplit.2 T.C_BadName.ss T.s_BadName_BadSplit
  · exact kit_one T.D_BadSplit.1 T.D_BadSplit.2 T.C_RepeatedName.ss T.s_RepeatedName_BadSplit
  · exact kit_one T.D_BadSplit.1 T.D_BadSplit.2 T.C_TooMany.ss T.s_TooMany_BadSplit
  · exact kit_one T.D_BadSplit.1 T.D_BadSplit.2 T.C_BadNumber.ss T.s_BadNumber_BadSplit
theorem Tx.p_Clash (T : Tx K mg A) {k : EK} (hk : k ∈ kinds) : errKit K (cA A k) (.cls A.c_Clash) = some (decide (k = .clash)) := by
  simp only [kinds, List.mem_cons, List.not_mem_nil, or_false] at hk
  rcases hk with rfl | rfl | rfl | rfl
  · exact kit_one T.D_Clash.1 T.D_Clash.2 T.C_BadName.ss T.s_BadName_Clash
  · exact kit_one T.D_Clash.1 T.D_Clash.2 T.C_RepeatedName.ss T.s_RepeatedName_Clash
  · exact kit_one T.D_Clash.1 T.D_Clash.2 T.C_TooMany.ss T.s_TooMany_Clash
  · exact kit_one T.D_Clash.1 T.D_Clash.2 T.C_BadNumber.ss T.s_BadNumber_Clash
theorem Tx.p_BadText (T : Tx K mg A) {k : EK} (hk : k ∈ kinds) : errKit K (cA A k) (.cls A.c_BadText) = some (decide (k = .badText)) := by
  simp only [kinds, List.mem_cons, List.not_mem_nil, or_false] at hk
  rcases hk with rfl | rfl | rfl | rfl
  · exact kit_one T.D_BadText.1 T.D_BadText.2 T.C_BadName.ss T.s_BadName_BadText
  · exact kit_one T.D_BadText.1 T.D_BadText.2 T.C_RepeatedName.ss T.s_RepeatedName_BadText
  · exact kit_one T.D_BadText.1 T.D_BadText.2 T.C_TooMany.ss T.s_TooMany_BadText
  · exact kit_one T.D_BadText.1 T.D_BadText.2 T.C_BadNumber.ss T.s_BadNumber_BadText
theorem Tx.p_BadLine (T : Tx K mg A) {k : EK} (hk : k ∈ kinds) : errKit K (cA A k) (.cls A.c_BadLine) = some (decide (k = .badLine)) := by
  simp only [kinds, List.mem_cons, List.not_mem_nil, or_false] at hk
  rcases hk with rfl | rfl | rfl | rfl
  · exact kit_one T.D_BadLine.1 T.D_BadLine.2 T.C_BadName.ss T.s_BadName_BadLine
  · exact kit_one T.D_BadLine.1 T.D_BadLine.2 T.C_RepeatedName.ss T.s_RepeatedName_BadLine
  · exact kit_one T.D_BadLine.1 T.D_BadLine.2 T.C_TooMany.ss T.s_TooMany_BadLine
  · exact kit_one T.D_BadLine.1 T.D_BadLine.2 T.C_BadNumber.ss T.s_BadNumber_BadLine
theorem Tx.p_BadTelling (T : Tx K mg A) {k : EK} (hk : k ∈ kinds) : errKit K (cA A k) (.cls A.c_BadTelling) = some (decide (k = .badTelling)) := by
  simp only [kinds, List.mem_cons, List.not_mem_nil, or_false] at hk
  rcases hk with rfl | rfl | rfl | rfl
  · exact kit_one T.D_BadTelling.1 T.D_BadTelling.2 T.C_BadName.ss T.s_BadName_BadTelling
  · exact kit_one T.D_BadTelling.1 T.D_BadTelling.2 T.C_RepeatedName.ss T.s_RepeatedName_BadTelling
  · exact kit_one T.D_BadTelling.1 T.D_BadTelling.2 T.C_TooMany.ss T.s_TooMany_BadTelling
  · exact kit_one T.D_BadTelling.1 T.D_BadTelling.2 T.C_BadNumber.ss T.s_BadNumber_BadTelling
theorem Tx.p_NotInAll (T : Tx K mg A) {k : EK} (hk : k ∈ kinds) : errKit K (cA A k) (.cls A.c_NotInAll) = some (decide (k = .notInAll)) := by
  simp only [kinds, List.mem_cons, List.not_mem_nil, or_false] at hk
  rcases hk with rfl | rfl | rfl | rfl
  · exact kit_one T.D_NotInAll.1 T.D_NotInAll.2 T.C_BadName.ss T.s_BadName_NotInAll
  · exact kit_one T.D_NotInAll.1 T.D_NotInAll.2 T.C_RepeatedName.ss T.s_RepeatedName_NotInAll
  · exact kit_one T.D_NotInAll.1 T.D_NotInAll.2 T.C_TooMany.ss T.s_TooMany_NotInAll
  · exact kit_one T.D_NotInAll.1 T.D_NotInAll.2 T.C_BadNumber.ss T.s_BadNumber_NotInAll
theorem Tx.p_NotAlike (T : Tx K mg A) {k : EK} (hk : k ∈ kinds) : errKit K (cA A k) (.cls A.c_NotAlike) = some (decide (k = .notAlike)) := by
  simp only [kinds, List.mem_cons, List.not_mem_nil, or_false] at hk
  rcases hk with rfl | rfl | rfl | rfl
  · exact kit_one T.D_NotAlike.1 T.D_NotAlike.2 T.C_BadName.ss T.s_BadName_NotAlike
  · exact kit_one T.D_NotAlike.1 T.D_NotAlike.2 T.C_RepeatedName.ss T.s_RepeatedName_NotAlike
  · exact kit_one T.D_NotAlike.1 T.D_NotAlike.2 T.C_TooMany.ss T.s_TooMany_NotAlike
  · exact kit_one T.D_NotAlike.1 T.D_NotAlike.2 T.C_BadNumber.ss T.s_BadNumber_NotAlike
theorem Tx.p_Untold (T : Tx K mg A) {k : EK} (hk : k ∈ kinds) : errKit K (cA A k) (.cls A.c_Untold) = some (decide (k = .untold)) := by
  simp only [kinds, List.mem_cons, List.not_mem_nil, or_false] at hk
  rcases hk with rfl | rfl | rfl | rfl
  · exact kit_one T.D_Untold.1 T.D_Untold.2 T.C_BadName.ss T.s_BadName_Untold
  · exact kit_one T.D_Untold.1 T.D_Untold.2 T.C_RepeatedName.ss T.s_RepeatedName_Untold
  · exact kit_one T.D_Untold.1 T.D_Untold.2 T.C_TooMany.ss T.s_TooMany_Untold
  · exact kit_one T.D_Untold.1 T.D_Untold.2 T.C_BadNumber.ss T.s_BadNumber_Untold
theorem Tx.p_BadPlaces (T : Tx K mg A) {k : EK} (hk : k ∈ kinds) : errKit K (cA A k) (.cls A.c_BadPlaces) = some (decide (k = .badPlaces)) := by
  simp only [kinds, List.mem_cons, List.not_mem_nil, or_false] at hk
  rcases hk with rfl | rfl | rfl | rfl
  · exact kit_one T.D_BadPlaces.1 T.D_BadPlaces.2 T.C_BadName.ss T.s_BadName_BadPlaces
  · exact kit_one T.D_BadPlaces.1 T.D_BadPlaces.2 T.C_RepeatedName.ss T.s_RepeatedName_BadPlaces
  · exact kit_one T.D_BadPlaces.1 T.D_BadPlaces.2 T.C_TooMany.ss T.s_TooMany_BadPlaces
  · exact kit_one T.D_BadPlaces.1 T.D_BadPlaces.2 T.C_BadNumber.ss T.s_BadNumber_BadPlaces
theorem Tx.p_BadSpot (T : Tx K mg A) {k : EK} (hk : k ∈ kinds) : errKit K (cA A k) (.cls A.c_BadSpot) = some (decide (k = .badSpot)) := by
  simp only [kinds, List.mem_cons, List.not_mem_nil, or_false] at hk
  rcases hk with rfl | rfl | rfl | rfl
  · exact kit_one T.D_BadSpot.1 T.D_BadSpot.2 T.C_BadName.ss T.s_BadName_BadSpot
  · exact kit_one T.D_BadSpot.1 T.D_BadSpot.2 T.C_RepeatedName.ss T.s_RepeatedName_BadSpot
  · exact kit_one T.D_BadSpot.1 T.D_BadSpot.2 T.C_TooMany.ss T.s_TooMany_BadSpot
  · exact kit_one T.D_BadSpot.1 T.D_BadSpot.2 T.C_BadNumber.ss T.s_BadNumber_BadSpot
theorem Tx.p_BadParting (T : Tx K mg A) {k : EK} (hk : k ∈ kinds) : errKit K (cA A k) (.cls A.c_BadParting) = some (decide (k = .badParting)) := by
  simp only [kinds, List.mem_cons, List.not_mem_nil, or_false] at hk
  rcases hk with rfl | rfl | rfl | rfl
  · exact kit_one T.D_BadParting.1 T.D_BadParting.2 T.C_BadName.ss T.s_BadName_BadParting
  · exact kit_one T.D_BadParting.1 T.D_BadParting.2 T.C_RepeatedName.ss T.s_RepeatedName_BadParting
  · exact kit_one T.D_BadParting.1 T.D_BadParting.2 T.C_TooMany.ss T.s_TooMany_BadParting
  · exact kit_one T.D_BadParting.1 T.D_BadParting.2 T.C_BadNumber.ss T.s_BadNumber_BadParting
theorem Tx.p_BadPaper (T : Tx K mg A) {k : EK} (hk : k ∈ kinds) : errKit K (cA A k) (.cls A.c_BadPaper) = some (decide (k = .badPaper)) := by
  simp only [kinds, List.mem_cons, List.not_mem_nil, or_false] at hk
  rcases hk with rfl | rfl | rfl | rfl
  · exact kit_one T.D_BadPaper.1 T.D_BadPaper.2 T.C_BadName.ss T.s_BadName_BadPaper
  · exact kit_one T.D_BadPaper.1 T.D_BadPaper.2 T.C_RepeatedName.ss T.s_RepeatedName_BadPaper
  · exact kit_one T.D_BadPaper.1 T.D_BadPaper.2 T.C_TooMany.ss T.s_TooMany_BadPaper
  · exact kit_one T.D_BadPaper.1 T.D_BadPaper.2 T.C_BadNumber.ss T.s_BadNumber_BadPaper
theorem Tx.p_UnlikeNames (T : Tx K mg A) {k : EK} (hk : k ∈ kinds) : errKit K (cA A k) (.cls A.c_UnlikeNames) = some (decide (k = .unlikeNames)) := by
  simp only [kinds, List.mem_cons, List.not_mem_nil, or_false] at hk
  rcases hk with rfl | rfl | rfl | rfl
  · exact kit_one T.D_UnlikeNames.1 T.D_UnlikeNames.2 T.C_BadName.ss T.s_BadName_UnlikeNames
  · exact kit_one T.D_UnlikeNames.1 T.D_UnlikeNames.2 T.C_RepeatedName.ss T.s_RepeatedName_UnlikeNames
  · exact kit_one T.D_UnlikeNames.1 T.D_UnlikeNames.2 T.C_TooMany.ss T.s_TooMany_UnlikeNames
  · exact kit_one T.D_UnlikeNames.1 T.D_UnlikeNames.2 T.C_BadNumber.ss T.s_BadNumber_UnlikeNames
theorem Tx.p_SameTree (T : Tx K mg A) {k : EK} (hk : k ∈ kinds) : errKit K (cA A k) (.cls A.c_SameTree) = some (decide (k = .sameTree)) := by
  simp only [kinds, List.mem_cons, List.not_mem_nil, or_false] at hk
  rcases hk with rfl | rfl | rfl | rfl
  · exact kit_one T.D_SameTree.1 T.D_SameTree.2 T.C_BadName.ss T.s_BadName_SameTree
  · exact kit_one T.D_SameTree.1 T.D_SameTree.2 T.C_RepeatedName.ss T.s_RepeatedName_SameTree
  · exact kit_one T.D_SameTree.1 T.D_SameTree.2 T.C_TooMany.ss T.s_TooMany_SameTree
  · exact kit_one T.D_SameTree.1 T.D_SameTree.2 T.C_BadNumber.ss T.s_BadNumber_SameTree
theorem Tx.p_NoTree (T : Tx K mg A) {k : EK} (hk : k ∈ kinds) : errKit K (cA A k) (.cls A.c_NoTree) = some (decide (k = .noTree)) := by
  simp only [kinds, List.mem_cons, List.not_mem_nil, or_false] at hk
  rcases hk with rfl | rfl | rfl | rfl
  · exact kit_one T.D_NoTree.1 T.D_NoTree.2 T.C_BadName.ss T.s_BadName_NoTree
  · exact kit_one T.D_NoTree.1 T.D_NoTree.2 T.C_RepeatedName.ss T.s_RepeatedName_NoTree
  · exact kit_one T.D_NoTree.1 T.D_NoTree.2 T.C_TooMany.ss T.s_TooMany_NoTree
  · exact kit_one T.D_NoTree.1 T.D_NoTree.2 T.C_BadNumber.ss T.s_BadNumber_NoTree
theorem Tx.p_SeveralTrees (T : Tx K mg A) {k : EK} (hk : k ∈ kinds) : errKit K (cA A k) (.cls A.c_SeveralTrees) = some (decide (k = .severalTrees)) := by
  simp only [kinds, List.mem_cons, List.not_mem_nil, or_false] at hk
  rcases hk with rfl | rfl | rfl | rfl
  · exact kit_one T.D_SeveralTrees.1 T.D_SeveralTrees.2 T.C_BadName.ss T.s_BadName_SeveralTrees
  · exact kit_one T.D_SeveralTrees.1 T.D_SeveralTrees.2 T.C_RepeatedName.ss T.s_RepeatedName_SeveralTrees
  · exact kit_one T.D_SeveralTrees.1 T.D_SeveralTrees.2 T.C_TooMany.ss T.s_TooMany_SeveralTrees
  · exact kit_one T.D_SeveralTrees.1 T.D_SeveralTrees.2 T.C_BadNumber.ss T.s_BadNumber_SeveralTrees
theorem Tx.pr (T : Tx K mg A) {k k2 : EK} (hk : k ∈ kinds) (hk2 : k2 ∈ kinds) : errKit K (cA A k) (.cls (cA A k2)) = some (decide (k = k2)) := by
  simp only [kinds, List.mem_cons, List.not_mem_nil, or_false] at hk2
  rcases hk2 with rfl | rfl | rfl | rfl
  · exact T.p_BadName hk
  · exact T.p_RepeatedName hk
  · exact T.p_TooMany hk
  · exact T.p_BadNumber hk
theorem Tx.inj (T : Tx K mg A) {k k2 : EK} (hk : k ∈ kinds) (hk2 : k2 ∈ kinds) (h : cA A k = cA A k2) : k = k2 := by
  have a := T.pr hk hk2
  rw [← h, T.pr hk hk] at a
  simpa using a
theorem Tx.erinj (T : Tx K mg A) {e e2 : Er} (hk : e.k ∈ kinds) (hk2 : e2.k ∈ kinds) (h : e.X (cA A) = e2.X (cA A)) : e = e2 := by
  cases e with
  | mk k xs =>
    cases e2 with
    | mk k2 xs2 =>
      simp only [Er.X, Exc.mk.injEq] at h
      obtain rfl := T.inj hk hk2 h.1
      obtain rfl := List.reverse_inj.mp h.2.2
      rfl
def fldN : List Str := ["most", "name", "number"]
theorem Tx.fld (T : Tx K mg A) {k : EK} (hk : k ∈ kinds) {n : Str} (hn : n ∈ fldN) : PySem.W.findIn K (.ref (cA A k)) n = some none := by
  simp only [kinds, List.mem_cons, List.not_mem_nil, or_false] at hk
  simp only [fldN, List.mem_cons, List.not_mem_nil, or_false] at hn
  rcases hk with rfl | rfl | rfl | rfl <;> rcases hn with rfl | rfl | rfl
  · exact T.n_BadName_most
  · exact T.n_BadName_name
  · exact T.n_BadName_number
  · exact T.n_RepeatedName_most
  · exact T.n_RepeatedName_name
  · exact T.n_RepeatedName_number
  · exact T.n_TooMany_most
  · exact T.n_TooMany_name
  · exact T.n_TooMany_number
  · exact T.n_BadNumber_most
  · exact T.n_BadNumber_name
  · exact T.n_BadNumber_number
theorem EX_BadName (T : Tx K mg A) : EX P w K mg base "BadName" "name" A.c_BadName := ⟨T.C_BadName.T, T.n_BadName_name, T.m_BadName, A.ai_BadName, A.fi_BadName, ["self", "name"], T.i_BadName, T.t_BadName, T.Fi_BadName.okN sc_init_BadName (fun vs H Q E h => by obtain ⟨a, v, rfl, _⟩ := h; rfl) (fun cdv A0 outer s H vs Q E hr h => ⟨_, pss_one (ps_ost (pv 0) (pv 1)), init_run h (fun a v e => by subst e; exact ⟨rfl, rfl⟩)⟩), T.bi_BadName⟩
theorem EX_RepeatedName (T : Tx K mg A) : EX P w K mg base "RepeatedName" "name" A.c_RepeatedName := ⟨T.C_RepeatedName.T, T.n_RepeatedName_name, T.m_RepeatedName, A.ai_RepeatedName, A.fi_RepeatedName, ["self", "name"], T.i_RepeatedName, T.t_RepeatedName, T.Fi_RepeatedName.okN sc_init_RepeatedName (fun vs H Q E h => by obtain ⟨a, v, rfl, _⟩ := h; rfl) (fun cdv A0 outer s H vs Q E hr h => ⟨_, pss_one (ps_ost (pv 0) (pv 1)), init_run h (fun a v e => by subst e; exact ⟨rfl, rfl⟩)⟩), T.bi_RepeatedName⟩
theorem EX_TooMany (T : Tx K mg A) : EX P w K mg base "TooMany" "most" A.c_TooMany := ⟨T.C_TooMany.T, T.n_TooMany_most, T.m_TooMany, A.ai_TooMany, A.fi_TooMany, ["self", "most"], T.i_TooMany, T.t_TooMany, T.Fi_TooMany.okN sc_init_TooMany (fun vs H Q E h => by obtain ⟨a, v, rfl, _⟩ := h; rfl) (fun cdv A0 outer s H vs Q E hr h => ⟨_, pss_one (ps_ost (pv 0) (pv 1)), init_run h (fun a v e => by subst e; exact ⟨rfl, rfl⟩)⟩), T.bi_TooMany⟩
theorem EX_BadNumber (T : Tx K mg A) : EX P w K mg base "BadNumber" "number" A.c_BadNumber := ⟨T.C_BadNumber.T, T.n_BadNumber_number, T.m_BadNumber, A.ai_BadNumber, A.fi_BadNumber, ["self", "number"], T.i_BadNumber, T.t_BadNumber, T.Fi_BadNumber.okN sc_init_BadNumber (fun vs H Q E h => by obtain ⟨a, v, rfl, _⟩ := h; rfl) (fun cdv A0 outer s H vs Q E hr h => ⟨_, pss_one (ps_ost (pv 0) (pv 1)), init_run h (fun a v e => by subst e; exact ⟨rfl, rfl⟩)⟩), T.bi_BadNumber⟩
end
section
variable {P : Program} {w : World} {K : PySem.W.Frag} {mg : Str → Option Value} {base : Heap} {A : TxA}
local macro_rules | `(tactic| trivial) => `(tactic| simp -dsimp only [↓W_lst, ↓W_lst1, ↓W_isS, ↓W_bt, ↓W_bc, ↓W_bz, ↓W_asgG, ↓W_valK, ↓W_rg2, ↓W_rg2k, ↓W_lc2, ↓W_ltD, ↓List.zip_cons_cons, ↓List.zip_nil_left, ↓W_lent, ↓W_lent1, ↓W_lent2, ↓W_lent3, ↓W_lent4, ↓W_mulL, ↓W_var, ↓W_var1, ↓W_var2, ↓W_var3, ↓W_c, ↓W_frz, ↓W_frz1, ↓W_frz2, ↓W_frz3, ↓W_frz4, ↓W_op, ↓W_call, ↓W_fn, ↓W_fn0, ↓W_fnK, ↓W_nil, ↓W_cons, ↓W_add1, ↓W_add2, ↓W_add3, ↓W_add4, ↓W_add5, ↓W_add6, ↓W_add7, ↓W_int, ↓W_int0, ↓W_mul1, ↓W_mul2, ↓W_eq1, ↓W_eq2, ↓W_eq3, ↓W_eq4, ↓W_ne1, ↓W_ne2, ↓W_ne3, ↓W_in1, ↓W_in2, ↓W_in3, ↓W_in4, ↓W_in5, ↓W_is1, ↓W_is2, ↓W_at, ↓W_atS, ↓W_ix1, ↓W_ix2, ↓W_ix3, ↓W_ix4, ↓W_sl, ↓W_on, ↓W_os, ↓W_part, ↓W_sl1, ↓W_sl2, ↓W_sl3, ↓W_sl4, ↓W_len1, ↓W_len2, ↓W_len3, ↓W_len4, ↓W_abs, ↓W_intf, ↓W_strf, ↓W_list1, ↓W_list2, ↓W_list3, ↓W_tup1, ↓W_tup2, ↓W_tup3, ↓W_max, ↓W_min, ↓W_allK, ↓W_all1, ↓W_isi1, ↓W_isi2, ↓W_k_ns, ↓W_k_bs, ↓W_k_is, ↓W_k_ss, ↓W_k_ts, ↓W_k_ls, ↓W_k_nb, ↓W_k_bb, ↓W_k_ib, ↓W_k_sb, ↓W_k_tb, ↓W_k_lb, ↓W_k_ni, ↓W_k_bi, ↓W_k_ii, ↓W_k_si, ↓W_k_ti, ↓W_k_li, ↓W_k_nt, ↓W_k_bt, ↓W_k_it, ↓W_k_st, ↓W_k_tt, ↓W_k_lt, ↓W_k_nl, ↓W_k_bl, ↓W_k_il, ↓W_k_sl, ↓W_k_tl, ↓W_k_ll, ↓W_valsK, ↓W_etup, ↓W_elst, ↓W_vals0, ↓W_vals1, ↓W_bool, ↓W_bool1, ↓W_tand, ↓W_tor, ↓W_tnot, ↓W_tru, ↓W_tru1, ↓W_tru2, ↓W_tru3, ↓W_tru4, ↓W_tru5, ↓W_tru6, ↓W_tru7, ↓W_bo, ↓W_eand, ↓W_eor, ↓W_enot, ↓W_ink, ↓W_eneg, ↓W_snil, ↓W_seq, ↓W_asg, ↓W_asg1, ↓W_asg2, ↓W_asg3, ↓W_ret, ↓W_hand1, ↓W_hand2, ↓W_hand3, ↓W_hand4, ↓W_expr, ↓W_if, ↓W_for, ↓W_any, ↓W_it1, ↓W_it2, ↓W_it3, ↓W_rg1, ↓W_lc, ↓W_bn, ↓W_yes, ↓W_ownK, ↓W_mut, ↓W_app, ↓W_ins, ↓W_setK, ↓W_stK, ↓W_setIx, ↓W_strK, ↓W_upper, ↓W_join1, ↓W_start, ↓W_slot1, ↓W_slot2, ↓W_arg1, ↓W_arg2, ↓W_sFrz, ↓W_strb, ↓W_sortK, ↓W_sorted1, ↓W_sorted2, ↓W_sorted3, ↓W_loan, ↓W_lent1, ↓W_lent2, ↓W_lent3, ↓W_lent4, ↓W_lent, ↓W_lfR1, ↓W_lfR2, ↓W_clear, ↓W_reverse, ↓W_extend1, ↓W_extend2, ↓W_intfb, ↓W_sidx, ↓W_raiseK, ↓W_raise, ↓W_try, ↓W_isPK, ↓W_fld, ↓W_errK, ↓W_errO, ↓W_cut, ↓W_startL, ↓W_rev3, ↓W_lrev, ↓W_revK1, ↓W_revK2, ↓W_rev2, ↓W_keepL, ↓W_mk, ↓W_mkKw, ↓W_ini0, ↓W_ini1, ↓W_ini2, ↓W_blK, ↓W_lnK, ↓W_lbK, ↓W_inO, ↓W_lenO, ↓W_boolO, ↓W_eqA, ↓W_isO, ↓W_prop, ↓W_prK, ↓W_itO, ↓W_lcX, ↓W_inD1, ↓W_inD2, ↓W_inD3, ↓W_en, ↓W_en1, ↓W_en2, ↓W_bt, ↓W_bc, ↓W_bz, ↓W_chK, ↓W_chain, ↓W_startO, ↓W_slotO1, ↓W_slotO2, ↓W_slotO3, ↓W_tKeep, ↓W_tOrE, ↓W_tAndE, ↓W_tNotE, ↓W_ifE, ↓W_anyI, ↓W_anyK, ↓W_meth, ↓W_mtK, ↓W_meth0, ↓W_mt0K, ↓W_methK, ↓W_mtkK, ↓W_bare0, ↓W_bare1, ↓W_trev, ↓W_trK, ↓W_obj, ↓W_mkK, ↓W_sortedD1, ↓W_sortedD2, ↓W_sortedD3, ↓W_raise2, ↓W_raiseK2, ↓W_setOf1, ↓W_setOf2, ↓W_setOf3, ↓W_sc, endsD, endsTry, wipeE, List.foldr_cons, List.foldr_nil, List.length_cons, List.length_nil, List.map_cons, List.map_nil, List.cons_append, List.nil_append, List.append_nil, List.replicate, List.getElem?_cons_zero, List.getElem?_cons_succ, List.getElem?_nil, List.set_cons_zero, List.set_cons_succ, Nat.reduceAdd, Nat.reduceSub, Nat.zero_add, if_true, if_false, Bool.false_eq_true, Bool.not_true, Bool.not_false, true_and, and_true, List.forall_mem_cons, List.mem_cons, List.not_mem_nil, or_false, forall_eq_or_imp, forall_eq, false_and, and_false, implies_true, false_or, Option.map_some, Option.map_none, ite_self, Bool.and_true, Bool.true_and, Bool.and_false, Bool.false_and, List.forall_mem_nil, decide_true, decide_false, isNonD, signsD, lf, lfL, eq_self])
abbrev sp__law_mixed : FD := mixedF
theorem mono__law_mixed : MonoF sp__law_mixed := mono_mixedF
theorem ok__law_mixed (T : Tx K mg A) : FnOk P w K mg base (L2N.CX P w) 1 A.a__law_mixed A.f__law_mixed ["number", "turn"] (spD K 2 sp__law_mixed) := by
  refine fn_okD T.F__law_mixed sc__law_mixed (by decide) (fun cdv A0 outer s H E g hK hr cy => ?_)
  refine ⟨_, _, (dss_cons (ds_asg 2 (DE.frz (de_mod cy (de_intf cy (by rfl) T.m_int (de_add cy (de_add cy (de_mul cy (de_var 0) de_int) (de_mul cy (de_var 1) de_int)) de_int)) de_int)) sc__law_mixed.nd)
    (dss_cons (ds_asg 3 (DE.frz (de_mod cy (de_intf cy (by rfl) T.m_int (de_add cy (de_add cy (de_mul cy (de_var 2) (de_var 2)) (de_mul cy (de_var 1) de_int)) (de_fdiv cy (de_var 2) de_int))) de_int)) sc__law_mixed.nd)
    (dss_one (ds_ret (de_mod cy (de_intf cy (by rfl) T.m_int (de_add cy (de_mul cy (de_var 3) de_int) (de_var 2))) de_int))))), fun rs Q Ex hlen h => ?_⟩
  obtain ⟨a, t, rfl, h⟩ := h
  trivial
  have f1 : 0 ≤ (a * 48271 + t * 69621 + 11).fmod 2147483647 := Int.fmod_nonneg_of_pos _ (by decide)
  have f2 : (a * 48271 + t * 69621 + 11).fmod 2147483647 < 2147483647 := Int.fmod_lt_of_pos _ (by decide)
  refine ⟨cmul_r (by decide) (by decide), cmul_r (by decide) (by decide), by decide, cmul_r (by omega) (by omega), cmul_r (by decide) (by decide), ⟨by decide, by decide⟩, by decide, cmul_r (by decide) (by decide), by decide, ?_⟩
  exact h _ (Int.fmod_nonneg_of_pos _ (by decide)) (Int.fmod_lt_of_pos _ (by decide))
abbrev sp__law_take : FD := takeF
theorem mono__law_take : MonoF sp__law_take := mono_takeF
/-- the store is read, written -/
theorem ok__law_take (T : Tx K mg A) : FnOk P w K mg base (L2N.CX P w) 2 A.a__law_take A.f__law_take ["store", "many"] (spD K 2 sp__law_take) := by
  have M := ok__law_mixed (P := P) (w := w) (base := base) T
  refine T.F__law_take.okN sc__law_take (fun vs H Q E h => ?_) (fun cdv A0 outer s H vs Q E hr h => ?_)
  · obtain ⟨st, F, rs, h1, _, _, h2, _⟩ := h
    rw [h2.length, h1]
    rfl
  · obtain ⟨st, F, rs, h1, hs, he, ha, n, rfl, hn, hf⟩ := h
    obtain ⟨v0, w0, rfl, e0, v1, w1, rfl, e1, e2⟩ := ha
    have e2' : w1 = [] := e2
    subst e2'
    have e1' : v1 = .int n := by simpa only [Rep] using e1
    subst e1'
    have e0' : v0 = .ref st := e0
    subst e0'
    obtain ⟨c, ns, i, r, sd, t, S⟩ := Sto.of hs
    have g0 : Grow st F H F H := Grow.refl he hs.free
    have tk : L2N.Takes (cxOf (L2N.CX P w) P w K mg base N__law_take "_law_take" (defScope s__law_take) A.a__law_take cdv A0 outer s H E) (fun cls d _ H => E cls d H) := L2N.takes_of rfl rfl rfl rfl
    refine ⟨_, pss_cons (ps_if (pt_cmpR op_lt (pv 1) pe_int (nomark _)) (pss_one (ps_ret pe_int)) pss_nil)
      (pss_cons (ps_asg (pe_op op_add (pe_ix ix_list (pv 0) pe_int (fun _ _ => rfl)) pe_int) (pg_sub (pv 0) pe_int set_list))
      (Evl.pss_cut (ps_if (PW.pt (pw_and (pt_cmpR op_eq (pe_ix ix_list (pv 0) pe_int (fun _ _ => rfl)) pe_int (nomark _)) (pw_and1 (pt_cmpR op_lt (pe_ix ix_list (pv 0) pe_int (fun _ _ => rfl)) (pe_callB call_len_seq (by rfl) T.m_len PySem.boot_len (pa_cons (pe_ix ix_list (pv 0) pe_int (fun _ _ => rfl)) pa_nil)) (nomark _)))))
        (pss_cons (ps_set (i := 2) sc__law_take.nd rfl (.inl rfl) (pe_ix ix_list (pe_ix ix_list (pv 0) pe_int (fun _ _ => rfl)) (pe_ix ix_list (pv 0) pe_int (fun _ _ => rfl)) (fun _ _ => rfl)))
        (pss_cons (ps_asg (pe_op op_add (pe_ix ix_list (pv 0) pe_int (fun _ _ => rfl)) pe_int) (pg_sub (pv 0) pe_int set_list))
        (pss_cons (ps_if (pt_cmpR op_lt (pe_callB call_abs (by rfl) T.m_abs (by decide +kernel) (pa_cons (pv 2) pa_nil)) (pe_op op_pow pe_int pe_int) (nomark _))
          (pss_one (ps_ret (pe_op op_modN (pe_callTy call_int1 (by rfl) T.m_int (by decide +kernel) (pa_cons (pe_callS M (hr.mono (by decide)) (by rfl) T.m__law_mixed T.F__law_mixed.kp T.b__law_mixed (fun σ => L2N.passAt tk σ) (pa_cons (pv 2) (pa_cons (pe_ix ix_list (pv 0) pe_int (fun _ _ => rfl)) pa_nil))) pa_nil)) (pv 1)))) pss_nil)
        (pss_one (ps_asg (pe_callB call_abs (by rfl) T.m_abs (by decide +kernel) (pa_cons (pv 2) pa_nil)) (pg_sub (pv 0) pe_int set_list)))))) pss_nil)
      (pss_cons (ps_if (pt_cmpR op_gt (pe_ix ix_list (pv 0) pe_int (fun _ _ => rfl)) pe_int (nomark _))
        (pss_cons (ps_set (i := 3) sc__law_take.nd rfl (.inl rfl) (pe_op op_modN (pe_callTy call_int1 (by rfl) T.m_int (by decide +kernel) (pa_cons (pe_ix ix_list (pv 0) pe_int (fun _ _ => rfl)) pa_nil)) (pv 1)))
        (pss_cons (ps_asg (pe_op op_fdivN (pe_callTy call_int1 (by rfl) T.m_int (by decide +kernel) (pa_cons (pe_ix ix_list (pv 0) pe_int (fun _ _ => rfl)) pa_nil)) (pv 1)) (pg_sub (pv 0) pe_int set_list))
        (pss_one (ps_ret (pv 3))))) pss_nil)
      (pss_cons (ps_asg (pe_callS M (hr.mono (by decide)) (by rfl) T.m__law_mixed T.F__law_mixed.kp T.b__law_mixed (fun σ => L2N.passAt tk σ) (pa_cons (pe_ix ix_list (pv 0) pe_int (fun _ _ => rfl)) (pa_cons (pe_ix ix_list (pv 0) pe_int (fun _ _ => rfl)) pa_nil))) (pg_sub (pv 0) pe_int set_list))
      (pss_one (ps_ret (pe_op op_modN (pe_callTy call_int1 (by rfl) T.m_int (by decide +kernel) (pa_cons (pe_ix ix_list (pv 0) pe_int (fun _ _ => rfl)) pa_nil)) (pv 1)))))))), ?_⟩
    have fin : ∀ {F1 H1 : Hp} {z : Int}, Grow st F H F1 H1 → StoreAt K st 0 F1 H1 → 0 ≤ z → z < n → 2 ≤ n → Q (.int z) H1 := fun {F1 H1 z} g1 s1 h0 h1 h2 => hf _ h0 (fun h => by omega) (fun _ => h1) F1 _ _ g1 s1 (by simp only [RetR, Rep])
    refine ⟨_, rfl, _, _, rfl, rfl, _, rfl, ite2 (fun cc => ?_) (fun cc => ?_)⟩
    · have c1 : n < 2 := of_decide_eq_true cc
      exact hf 0 (Int.le_refl 0) (fun _ => rfl) (fun h => by omega) F H _ g0 hs (by simp only [RetR, Rep])
    have n2 : 2 ≤ n := by
      have := of_decide_eq_false (Bool.eq_false_iff.mpr cc)
      omega
    have nf : n ≠ 0 := by omega
    -- store[4] = store[4] + 1
    refine ⟨_, rfl, st, _, 4, .int t, rfl, rfl, .inl (.inl S.at'), rfl, t, 1, rfl, rfl, _, rfl, st, _, 4, 4, rfl, rfl, S.at', rfl, ?_⟩
    have S1 := S.put (i' := i) (r' := r) (sd' := sd) (t' := t + 1) S.i0 S.r0 S.s0 S.s1 (by have := S.t0; omega)
    have g1 : Grow st F H F (upd H st (.lst [.ref c, .int i, .int r, .int sd, .int (t + 1)])) := g0.put
    have x1 : SqL K (upd H st (.lst [.ref c, .int i, .int r, .int sd, .int (t + 1)])) c (ns.map V.int) := Evl.ex_l g1.fh S1.sq
    refine ⟨fun σ H2 => ∃ y2 y3 i r sd t, σ = [some (.ref st), some (.int n), y2, y3] ∧ Sto K st F H2 c ns i r sd t ∧ Grow st F H F H2, ?_, ?_⟩
    · refine ⟨_, rfl, st, _, 2, .int r, rfl, rfl, .inl (.inl S1.at'), rfl, rfl, _, rfl, ite2 (fun c1 => ?_) (fun c1 => iteF ⟨_, _, _, _, _, _, rfl, S1, g1⟩)⟩
      refine ⟨_, rfl, st, _, 1, .int i, rfl, rfl, .inl (.inl S1.at'), rfl, _, rfl, st, _, 0, .ref c, rfl, rfl, .inl (.inl S1.at'), rfl, c, _, rfl, .inl x1, _, _, rfl, rfl, _, rfl, ite2 (fun c2 => ?_) (fun c2 => ⟨_, _, _, _, _, _, rfl, S1, g1⟩)⟩
      have hlt : i < ((ns.map V.int).length : Int) := of_decide_eq_true c2
      rw [List.length_map] at hlt
      have hi : i.toNat < ns.length := by have := S1.i0; omega
      obtain ⟨cell, at1⟩ : ∃ z, atI (ns.map V.int) i = some (.int z) := ⟨ns[i.toNat], by
        have q := atI_nat (xs := ns.map V.int) (j := i.toNat) (v := .int ns[i.toNat]) (by rw [List.getElem?_map, List.getElem?_eq_getElem hi]; rfl)
        rw [Int.toNat_of_nonneg S1.i0] at q
        exact q⟩
      -- cell = store[0][store[1]]
      refine ⟨_, rfl, st, _, 0, .ref c, rfl, rfl, .inl (.inl S1.at'), rfl, _, rfl, st, _, 1, .int i, rfl, rfl, .inl (.inl S1.at'), rfl, c, _, i, _, rfl, rfl, x1, at1, ?_⟩
      -- store[1] = store[1] + 1
      refine ⟨_, rfl, st, _, 1, .int i, rfl, rfl, .inl (.inl S1.at'), rfl, i, 1, rfl, rfl, _, rfl, st, _, 1, 1, rfl, rfl, S1.at', rfl, ?_⟩
      have S2 := S1.put (i' := i + 1) (r' := r) (sd' := sd) (t' := t + 1) (by have := S1.i0; omega) S1.r0 S1.s0 S1.s1 S1.t0
      have g2 := g1.put (o := .lst [.ref c, .int (i + 1), .int r, .int sd, .int (t + 1)])
      -- abs(cell) < 10 ** 18
      refine ⟨_, rfl, _, rfl, 10, 18, rfl, rfl, ⟨by decide, by decide, by decide⟩, _, _, rfl, rfl, _, rfl, ite2 (fun c3 => ?_) (fun c3 => ?_)⟩
      · refine ⟨_, rfl, _, rfl, st, _, 4, .int (t + 1), rfl, rfl, .inl (.inl S2.at'), rfl, ?_⟩
        refine ⟨st, F, [.val (.int cell), .val (.int (t + 1))], rfl, S2.store, g2.fh, ⟨_, _, rfl, by simp only [Rep], _, _, rfl, by simp only [Rep], rfl⟩, _, _, rfl, fun z h0 h1 F' H' v w s2 rr => ?_⟩
        have ev : v = .int z := by simpa only [RetR, Rep] using rr
        subst ev
        exact .inl ⟨z, rfl, _, rfl, _, _, rfl, rfl, nf, fin (g2.trans w) s2 (Int.fmod_nonneg_of_pos _ (by omega)) (Int.fmod_lt_of_pos _ (by omega)) n2⟩
      · refine ⟨_, rfl, _, rfl, _, rfl, st, _, 2, 2, rfl, rfl, S2.at', rfl, ?_⟩
        have hab : 0 ≤ (if cell < 0 then -cell else cell) := by split <;> omega
        exact ⟨_, _, _, _, _, _, rfl, S2.put (i' := i + 1) (r' := if cell < 0 then -cell else cell) (sd' := sd) (t' := t + 1) S2.i0 hab S2.s0 S2.s1 S2.t0, g2.put⟩
    · rintro σ2 H2 ⟨y2, y3, i, r, sd, t, rfl, S2, g2⟩
      refine ⟨_, rfl, st, _, 2, .int r, rfl, rfl, .inl (.inl S2.at'), rfl, _, _, rfl, rfl, _, rfl, ite2 (fun c1 => ?_) (fun c1 => ?_)⟩
      · -- digit = int(store[2]) % many
        refine ⟨_, rfl, st, _, 2, .int r, rfl, rfl, .inl (.inl S2.at'), rfl, .inl ⟨r, rfl, _, rfl, r, n, rfl, rfl, nf, ?_⟩⟩
        refine ⟨_, rfl, st, _, 2, .int r, rfl, rfl, .inl (.inl S2.at'), rfl, .inl ⟨r, rfl, _, rfl, r, n, rfl, rfl, ⟨nf, by omega⟩, _, rfl, st, _, 2, 2, rfl, rfl, S2.at', rfl, ?_⟩⟩
        have hr : 0 ≤ r.fdiv n := Int.fdiv_nonneg S2.r0 (by omega)
        have S3 := S2.put (i' := i) (r' := r.fdiv n) (sd' := sd) (t' := t) S2.i0 hr S2.s0 S2.s1 S2.t0
        exact ⟨_, rfl, fin g2.put S3.store (Int.fmod_nonneg_of_pos _ (by omega)) (Int.fmod_lt_of_pos _ (by omega)) n2⟩
      · -- store[3] = _law_mixed(store[3], store[4])
        refine ⟨_, rfl, st, _, 3, .int sd, rfl, rfl, .inl (.inl S2.at'), rfl, _, rfl, st, _, 4, .int t, rfl, rfl, .inl (.inl S2.at'), rfl, ?_⟩
        refine ⟨st, F, [.val (.int sd), .val (.int t)], rfl, S2.store, g2.fh, ⟨_, _, rfl, by simp only [Rep], _, _, rfl, by simp only [Rep], rfl⟩, _, _, rfl, fun z h0 h1 F' H' v w s2 rr => ?_⟩
        have ev : v = .int z := by simpa only [RetR, Rep] using rr
        subst ev
        obtain ⟨c', ns', i', r', sd', t', S3⟩ := Sto.of s2
        refine ⟨_, rfl, st, _, 3, 3, rfl, rfl, S3.at', rfl, ?_⟩
        have S4 := S3.put (i' := i') (r' := r') (sd' := z) (t' := t') S3.i0 S3.r0 h0 (by omega) S3.t0
        have g3 : Grow st F H F' (upd H' st (.lst [.ref c', .int i', .int r', .int z, .int t'])) := (g2.trans w).put
        exact ⟨_, rfl, st, _, 3, .int z, rfl, rfl, .inl (.inl S4.at'), rfl, .inl ⟨z, rfl, _, rfl, z, n, rfl, rfl, nf, fin g3 S4.store (Int.fmod_nonneg_of_pos _ (by omega)) (Int.fmod_lt_of_pos _ (by omega)) n2⟩⟩
abbrev sp__law_once : FD := onceF
theorem mono__law_once : MonoF sp__law_once := mono_onceF
theorem ok__law_once (T : Tx K mg A) : FnOk P w K mg base (L2N.CX P w) 3 A.a__law_once A.f__law_once ["store", "many"] (spD K 2 sp__law_once) := by
  refine fn_okD T.F__law_once sc__law_once (by decide) (fun cdv A0 outer s H E g hK hr cy => ?_)
  refine ⟨_, _, (dss_one (ds_ret (de_eq cy (de_call cy (ok__law_take T) mono__law_take (hr.mono (by decide)) (by rfl) T.m__law_take T.F__law_take.kp T.b__law_take (da_cons (de_var 0) (da_cons (de_var 1) da_nil))) de_int))), fun rs Q Ex hlen h => ?_⟩
  obtain ⟨n, rfl, hn, h⟩ := h
  trivial
  refine take_of hn fun r _ _ _ => ?_
  trivial
  exact h _
abbrev sp__law_pick : FD := pickF
theorem mono__law_pick : MonoF sp__law_pick := mono_pickF
theorem ok__law_pick (T : Tx K mg A) : FnOk P w K mg base (L2N.CX P w) 3 A.a__law_pick A.f__law_pick ["store", "items"] (spD K 2 sp__law_pick) := by
  refine fn_okD T.F__law_pick sc__law_pick (by decide) (fun cdv A0 outer s H E g hK hr cy => ?_)
  refine ⟨_, _, (dss_one (ds_ret (de_item cy (de_var 1) (de_call cy (ok__law_take T) mono__law_take (hr.mono (by decide)) (by rfl) T.m__law_take T.F__law_take.kp T.b__law_take (da_cons (de_var 0) (da_cons (de_len cy (by rfl) T.m_len (de_var 1)) da_nil)))))), fun rs Q Ex hlen h => ?_⟩
  obtain ⟨d, rfl, h⟩ := h
  rcases h with ⟨z, rfl, h0, h1, h⟩ | ⟨ds, rfl | rfl, h0, h1, h⟩
  · trivial
    refine ⟨h1, take_of (by omega) fun r h2 h3 h4 => ?_⟩
    trivial
    exact ⟨h1, atS_mem h2 (by rw [chars_len]; by_cases h5 : (2 : Int) ≤ z.length <;> omega) h⟩
  · trivial
    refine take_of (by omega) fun r h2 h3 h4 => ?_
    trivial
    exact atK_mem h2 (by by_cases h5 : (2 : Int) ≤ ds.length <;> omega) h
  · trivial
    refine take_of (by omega) fun r h2 h3 h4 => ?_
    trivial
    exact atK_mem h2 (by by_cases h5 : (2 : Int) ≤ ds.length <;> omega) h
abbrev sp__law_number : FD := numberF
theorem mono__law_number : MonoF sp__law_number := mono_numberF
theorem ok__law_number (T : Tx K mg A) : FnOk P w K mg base (L2N.CX P w) 3 A.a__law_number A.f__law_number ["store", "low", "high"] (spD K 3 sp__law_number) := by
  refine fn_okD T.F__law_number sc__law_number (by decide) (fun cdv A0 outer s H E g hK hr cy => ?_)
  refine ⟨_, _, (dss_cons (ds_asg 3 (DE.frz (de_call cy (ok__law_take T) mono__law_take (hr.mono (by decide)) (by rfl) T.m__law_take T.F__law_take.kp T.b__law_take (da_cons (de_var 0) (da_cons de_int da_nil)))) sc__law_number.nd)
    (dss_cons (ds_if (DW.dt (dw_or (dt_eq cy (de_var 3) de_int) (dw_or1 (dt_le cy (de_var 2) (de_var 1))))) (dss_one (ds_ret (de_var 1))) dss_nil)
    (dss_cons (ds_if (dt_eq cy (de_var 3) de_int) (dss_one (ds_ret (de_var 2))) dss_nil)
    (dss_one (ds_ret (de_add cy (de_var 1) (de_call cy (ok__law_take T) mono__law_take (hr.mono (by decide)) (by rfl) T.m__law_take T.F__law_take.kp T.b__law_take (da_cons (de_var 0) (da_cons (de_add cy (de_sub cy (de_var 2) (de_var 1)) de_int) da_nil))))))))), fun rs Q Ex hlen h => ?_⟩
  obtain ⟨lo, hi, rfl, hn, h⟩ := h
  trivial
  refine take_of (by omega) fun r _ _ _ => ?_
  trivial
  by_cases c1 : r = 0
  · rw [decide_eq_true c1]
    trivial
    exact h _ (by omega) (.inr rfl)
  rw [decide_eq_false c1]
  trivial
  by_cases c2 : hi ≤ lo
  · rw [decide_eq_true c2]
    trivial
    exact h _ (by omega) (.inr rfl)
  rw [decide_eq_false c2]
  trivial
  by_cases c3 : r = 1
  · rw [decide_eq_true c3]
    trivial
    exact h _ (by omega) (.inl (Int.le_refl _))
  rw [decide_eq_false c3]
  trivial
  refine take_of (by omega) fun z h2 h3 h4 => ?_
  trivial
  exact h _ (by omega) (.inl (by omega))
abbrev sp__law_name : FD := nameF
theorem mono__law_name : MonoF sp__law_name := mono_nameF
theorem ok__law_name (T : Tx K mg A) : FnOk P w K mg base (L2N.CX P w) 4 A.a__law_name A.f__law_name ["store"] (spD K 1 sp__law_name) := by
  refine fn_okD T.F__law_name sc__law_name (by decide) (fun cdv A0 outer s H E g hK hr cy => ?_)
  refine ⟨_, _, (dss_cons (ds_asg 1 (DE.frz de_str) sc__law_name.nd)
    (dss_cons (ds_asg 2 (DE.frz (de_add cy (de_var 1) de_str)) sc__law_name.nd)
    (dss_cons (ds_asg 3 (DE.frz de_int) sc__law_name.nd)
    (dss_cons (ds_if (dt_gt cy (de_call cy (ok__law_take T) mono__law_take (hr.mono (by decide)) (by rfl) T.m__law_take T.F__law_take.kp T.b__law_take (da_cons (de_var 0) (da_cons de_int da_nil))) de_int) (dss_one (ds_asg 3 (DE.frz (de_call cy (ok__law_number T) mono__law_number (hr.mono (by decide)) (by rfl) T.m__law_number T.F__law_number.kp T.b__law_number (da_cons (de_var 0) (da_cons de_int (da_cons de_int da_nil))))) sc__law_name.nd)) dss_nil)
    (dss_cons (ds_asg 4 (de_call cy (ok__law_pick T) mono__law_pick (hr.mono (by decide)) (by rfl) T.m__law_pick T.F__law_pick.kp T.b__law_pick (da_cons (de_var 0) (da_cons (de_var 1) da_nil))) sc__law_name.nd)
    (dss_cons (ds_for cy (di_range1 (by rfl) T.m_range (da_cons (de_sub cy (de_var 3) de_int) da_nil)) (dg_name 5 sc__law_name.nd) (dss_one (ds_asg 4 (de_add cy (de_var 4) (de_call cy (ok__law_pick T) mono__law_pick (hr.mono (by decide)) (by rfl) T.m__law_pick T.F__law_pick.kp T.b__law_pick (da_cons (de_var 0) (da_cons (de_var 2) da_nil)))) sc__law_name.nd)))
    (dss_one (ds_ret (de_var 4))))))))), fun rs Q Ex hlen h => ?_⟩
  obtain ⟨rfl, h⟩ := h
  trivial
  refine ⟨by decide, take_of (by decide) fun r r0 _ r1 => ?_⟩
  trivial
  refine iteB (fun _ => ?_) (fun _ => ?_)
  · refine number_of (by decide) (by decide) fun n n0 n1 => ?_
    trivial
    refine pick_str (s := LET) (by decide +kernel) (by decide +kernel) fun c hc => ?_
    trivial
    refine ⟨by omega, by omega, nn_of (by rw [range_len]; omega), ?_⟩
    refine forW_inv (fun i env => ∃ (z : Option SV) (wd : Str), env = [some .sto, some (.val (.str LET)), some (.val (.str SIG2)), some (.val (.int n)), some (.val (.str wd)), z] ∧ wd.length = 1 + i ∧ SignsOk wd) (fun i d env N hi ⟨z, wd, e, h1, h2⟩ hN => ?_) (fun env ⟨z, wd, e, h1, h2⟩ => ?_) _ ⟨_, _, rfl, rfl, name_one hc⟩
    · subst e
      have hi2 : i < 8 := by
        have := (range_at hi).1
        omega
      trivial
      refine pick_str (s := SIG2) (by decide +kernel) (by decide +kernel) fun c2 hc2 => ?_
      trivial
      rw [h1]
      refine ⟨lim_of (by show 1 + i + 1 ≤ _; omega), hN _ ⟨_, _, rfl, ?_, name_add h2 (sig2_sig _ hc2)⟩⟩
      rw [len_add, h1]
      rfl
    · subst e
      trivial
      refine h _ (isName_of (by omega) ?_ h2)
      rw [h1, range_len]
      omega
  · refine pick_str (s := LET) (by decide +kernel) (by decide +kernel) fun c hc => ?_
    trivial
    refine ⟨by omega, by omega, nn_of (by rw [range_len]; omega), ?_⟩
    refine forW_inv (fun i env => ∃ (z : Option SV) (wd : Str), env = [some .sto, some (.val (.str LET)), some (.val (.str SIG2)), some (.val (.int 1)), some (.val (.str wd)), z] ∧ wd.length = 1 + i ∧ SignsOk wd) (fun i d env N hi ⟨z, wd, e, h1, h2⟩ hN => ?_) (fun env ⟨z, wd, e, h1, h2⟩ => ?_) _ ⟨_, _, rfl, rfl, name_one hc⟩
    · subst e
      have hi2 : i < 8 := by
        have := (range_at hi).1
        omega
      trivial
      refine pick_str (s := SIG2) (by decide +kernel) (by decide +kernel) fun c2 hc2 => ?_
      trivial
      rw [h1]
      refine ⟨lim_of (by show 1 + i + 1 ≤ _; omega), hN _ ⟨_, _, rfl, ?_, name_add h2 (sig2_sig _ hc2)⟩⟩
      rw [len_add, h1]
      rfl
    · subst e
      trivial
      refine h _ (isName_of (by omega) ?_ h2)
      rw [h1, range_len]
      omega
abbrev sp__law_badname : FD := badnameF
theorem mono__law_badname : MonoF sp__law_badname := mono_badnameF
theorem ok__law_badname (T : Tx K mg A) : FnOk P w K mg base (L2N.CX P w) 5 A.a__law_badname A.f__law_badname ["store"] (spD K 1 sp__law_badname) := by
  refine fn_okD T.F__law_badname sc__law_badname (by decide) (fun cdv A0 outer s H E g hK hr cy => ?_)
  refine ⟨_, _, (dss_cons (ds_asg 1 (DE.frz (de_call cy (ok__law_name T) mono__law_name (hr.mono (by decide)) (by rfl) T.m__law_name T.F__law_name.kp T.b__law_name (da_cons (de_var 0) da_nil))) sc__law_badname.nd)
    (dss_cons (ds_asg 2 (DE.frz (de_call cy (ok__law_take T) mono__law_take (hr.mono (by decide)) (by rfl) T.m__law_take T.F__law_take.kp T.b__law_take (da_cons (de_var 0) (da_cons de_int da_nil)))) sc__law_badname.nd)
    (dss_cons (ds_if (dt_eq cy (de_var 2) de_int) (dss_one (ds_ret (de_call cy (ok__law_pick T) mono__law_pick (hr.mono (by decide)) (by rfl) T.m__law_pick T.F__law_pick.kp T.b__law_pick (da_cons (de_var 0) (da_cons (de_lst (da_cons de_bl (da_cons de_bl (da_cons de_non (da_cons de_int (da_cons de_int (da_cons (de_neg cy de_int) (da_cons (de_pow cy de_int de_int) da_nil)))))))) da_nil))))) dss_nil)
    (dss_cons (ds_if (dt_eq cy (de_var 2) de_int) (dss_one (ds_ret de_str)) dss_nil)
    (dss_cons (ds_if (dt_eq cy (de_var 2) de_int) (dss_one (ds_ret (de_slice cy (de_add cy (de_var 1) de_str) do_none (do_some de_int)))) dss_nil)
    (dss_cons (ds_if (dt_eq cy (de_var 2) de_int) (dss_one (ds_ret (de_add cy (de_strf cy (by rfl) T.m_str (de_call cy (ok__law_take T) mono__law_take (hr.mono (by decide)) (by rfl) T.m__law_take T.F__law_take.kp T.b__law_take (da_cons (de_var 0) (da_cons de_int da_nil)))) (de_slice cy (de_var 1) (do_some de_int) do_none)))) dss_nil)
    (dss_cons (ds_if (dt_eq cy (de_var 2) de_int) (dss_one (ds_ret (de_add cy (de_slice cy (de_var 1) do_none (do_some de_int)) de_str))) dss_nil)
    (dss_cons (ds_if (dt_eq cy (de_var 2) de_int) (dss_one (ds_ret (de_slice cy (de_mul cy (de_var 1) de_int) do_none (do_some (de_add cy de_int (de_call cy (ok__law_take T) mono__law_take (hr.mono (by decide)) (by rfl) T.m__law_take T.F__law_take.kp T.b__law_take (da_cons (de_var 0) (da_cons de_int da_nil)))))))) dss_nil)
    (dss_cons (ds_asg 3 (DE.frz de_str) sc__law_badname.nd)
    (dss_cons (ds_asg 4 (DE.frz (de_call cy (ok__law_pick T) mono__law_pick (hr.mono (by decide)) (by rfl) T.m__law_pick T.F__law_pick.kp T.b__law_pick (da_cons (de_var 0) (da_cons (de_var 3) da_nil)))) sc__law_badname.nd)
    (dss_cons (ds_asg 5 (DE.frz (de_call cy (ok__law_take T) mono__law_take (hr.mono (by decide)) (by rfl) T.m__law_take T.F__law_take.kp T.b__law_take (da_cons (de_var 0) (da_cons (de_len cy (by rfl) T.m_len (de_var 1)) da_nil)))) sc__law_badname.nd)
    (dss_cons (ds_if (dt_eq cy (de_var 2) de_int) (dss_one (ds_ret (de_slice cy (de_add cy (de_add cy (de_slice cy (de_var 1) do_none (do_some (de_var 5))) (de_var 4)) (de_slice cy (de_var 1) (do_some (de_var 5)) do_none)) do_none (do_some de_int)))) dss_nil)
    (dss_one (ds_ret (de_add cy (de_add cy (de_slice cy (de_var 1) do_none (do_some (de_var 5))) (de_var 4)) (de_slice cy (de_var 1) (do_some (de_add cy (de_var 5) de_int)) do_none)))))))))))))))), fun rs Q Ex hlen h => ?_⟩
  obtain ⟨rfl, h⟩ := h
  trivial
  refine name_of fun wd hw => ?_
  have ⟨w0, w1⟩ := name_len hw
  have wv := name_v hw
  trivial
  refine take_of (by decide) fun r r0 _ r1 => ?_
  trivial
  refine iteB (fun _ => ?_) (fun _ => ?_)
  · refine ⟨⟨by decide, by decide, by decide⟩, by decide, pick_lst (by simp) (by simp) fun d hd => ?_⟩
    trivial
    refine h _ ?_
    simp only [List.mem_cons, List.not_mem_nil, or_false] at hd
    rcases hd with rfl | rfl | rfl | rfl | rfl | rfl | rfl <;> exact True.intro
  refine iteB (fun _ => ?_) (fun _ => ?_)
  · exact h _ ⟨by decide, allV_lit (by decide)⟩
  refine iteB (fun _ => ?_) (fun _ => ?_)
  · rw [len_add]
    exact ⟨lim_of (by show wd.length + 8 ≤ _; omega), lim_of (by show wd.length + 8 ≤ _; omega), h _ ⟨by refine cut8 ?_; rw [len_add]; show wd.length + 8 ≤ _; omega, allV_cut (allV_add wv (allV_lit (by decide)))⟩⟩
  refine iteB (fun _ => ?_) (fun _ => ?_)
  · refine take_of (by decide) fun z z0 _ z1 => ?_
    have z2 := z1 (by decide)
    trivial
    obtain ⟨n1, n2⟩ := num_small z0 z2
    have c1 : (cutS wd (some 1) none).length ≤ 8 := cut8 w1
    refine ⟨n1, lim_of (by omega), lim_of (by omega), h _ ⟨by rw [len_add]; omega, allV_add (num_v z0 z2) (allV_cut wv)⟩⟩
  refine iteB (fun _ => ?_) (fun _ => ?_)
  · have c1 : (cutS wd none (some 7)).length ≤ 8 := cut8 w1
    have c2 : (Str.ofString "\n").length = 1 := by decide
    refine ⟨lim_of (by omega), lim_of (by omega), h _ ⟨by rw [len_add]; omega, allV_add (allV_cut wv) (allV_lit (by decide))⟩⟩
  refine iteB (fun _ => ?_) (fun _ => ?_)
  · refine ⟨⟨by decide, by decide, by show wd.length * 40 ≤ _; omega⟩, ?_⟩
    refine take_of (by decide) fun z z0 _ z1 => ?_
    trivial
    have e : (repS wd (Int.toNat 40)).length ≤ 320 := by rw [repS_length]; show 40 * wd.length ≤ 320; omega
    exact ⟨lim_of (by omega), h _ ⟨cut8 (by omega), allV_cut (allV_rep wv)⟩⟩
  refine pick_str (s := BADS) (by decide +kernel) (by decide +kernel) fun c2 hc2 => ?_
  have cv : AllV ⟨#[c2]⟩ := allV_mem (s := BADS) (by decide +kernel) hc2
  trivial
  refine ⟨lim_of (by omega), take_of (by omega) fun z z0 _ z1 => ?_⟩
  trivial
  refine iteB (fun _ => ?_) (fun _ => ?_)
  · have c1 : (cutS wd none (some z)).length ≤ 8 := cut8 w1
    have c2 : (cutS wd (some z) none).length ≤ 8 := cut8 w1
    simp only [len_add, one_len]
    refine ⟨lim_of (by omega), lim_of (by omega), lim_of (by omega), lim_of (by omega), lim_of (by omega), h _ ⟨by refine cut8 ?_; simp only [len_add, one_len]; omega, allV_cut (allV_add (allV_add (allV_cut wv) cv) (allV_cut wv))⟩⟩
  · have c1 : (cutS wd none (some z)).length ≤ 8 := cut8 w1
    have c2 : (cutS wd (some (z + 1)) none).length ≤ 8 := cut8 w1
    simp only [len_add, one_len]
    refine ⟨lim_of (by omega), lim_of (by omega), lim_of (by omega), lim_of (by omega), h _ ⟨by simp only [len_add, one_len]; omega, allV_add (allV_add (allV_cut wv) cv) (allV_cut wv)⟩⟩
abbrev sp_is_name : FD := isnameF
theorem mono_is_name : MonoF sp_is_name := mono_isnameF
theorem ok_is_name (T : Tx K mg A) : FnOk P w K mg base (L2N.CX P w) 1 A.a_is_name A.f_is_name ["value"] (spD K 1 sp_is_name) := by
  refine fn_okD T.F_is_name sc_is_name (by decide) (fun cdv A0 outer s H E g hK hr cy => ?_)
  refine ⟨_, _, (dss_cons (ds_if (DW.dt (dw_or (dt_not (dt_tru cy (de_isi cy (by rfl) T.m_isinstance (da_cons (de_var 0) (da_cons (de_ty (n := "str") (by rfl) T.m_str (by decide +kernel)) da_nil))))) (dw_or (dt_eq cy (de_var 0) de_str) (dw_or1 (dt_gt cy (de_len cy (by rfl) T.m_len (de_var 0)) (de_gint (by rfl) T.m_MOST_SIGNS)))))) (dss_one (ds_ret de_bl)) dss_nil)
    (dss_one (ds_ret (de_and (de_in cy (de_item cy (de_var 0) de_int) (de_gstr (by rfl) T.m_LETTERS)) (de_one (de_all cy (by rfl) T.m_all (de_lc cy (own := [("sign", 1)]) sc_is_name.nd (di_any cy (de_var 0)) (blkOk_by (own := [("sign", 1)]) (N := N_is_name) (sc := defScope s_is_name) (by decide +kernel)) (fun _ _ _ _ _ cy => (dg_name 1 sc_is_name.nd)) (fun _ _ _ _ _ cy => dts_nil) (fun _ _ _ _ _ cy => (de_in cy (de_var 1) (de_gstr (by rfl) T.m_SIGNS)))))))))), fun rs Q Ex hlen h => ?_⟩
  obtain ⟨d, rfl, ha, h⟩ := h
  cases d with
  | str s =>
    trivial
    have l1 : s.length ≤ 5000 := ha
    refine iteB (fun c => ?_) (fun c => ?_)
    · have e := of_decide_eq_true c
      subst e
      exact h
    · refine ⟨lim_of (by omega), iteB (fun c2 => ?_) (fun c2 => ?_)⟩
      · have e : isNameD (.str s) = false := by
          have := of_decide_eq_true c2
          have : ¬ s.length ≤ 8 := by omega
          simp [isNameD, isNameS, this]
        rw [e] at h
        exact h
      · have l2 : s.length ≤ 8 := by
          have := of_decide_eq_false c2
          omega
        have l3 : 0 < s.length := by
          have := of_decide_eq_false c
          rcases Nat.eq_zero_or_pos s.length with z | z
          · exact absurd (str_len0 z) this
          · exact z
        obtain ⟨c0, l, el⟩ := first_of l3
        refine ⟨lim_of (by omega), c0, by rw [el]; exact atI_nat (j := 0) rfl, ?_⟩
        trivial
        refine iteB (fun f => ?_) (fun f => ?_)
        · refine ⟨nn_of (by rw [List.length_map, chars_len]; omega), lcW_map (fun _ => true) sigB _ _ (fun d hd Y N hy _ => ?_) ?_⟩
          · obtain ⟨c, hc, rfl⟩ := List.mem_map.mp hd
            trivial
            exact ⟨_, rfl, hy rfl⟩
          · rw [sig_map]
            trivial
            rw [bools_map]
            trivial
            have e : isNameD (.str s) = (s.cps.toList.map fun c => decide (c ∈ SIG.cps.toList)).all id := by
              show isNameS s = _
              unfold isNameS
              rw [decide_eq_true l3, decide_eq_true l2, el]
              have f2 : firstIn (c0 :: l) = true := f
              rw [f2, List.all_map]
              rfl
            rw [e] at h
            exact h
        · have e : isNameD (.str s) = false := by
            show isNameS s = _
            unfold isNameS
            rw [el]
            have f2 : firstIn (c0 :: l) = false := f
            rw [f2, Bool.and_false, Bool.false_and]
          rw [e] at h
          exact h
  | obj _ _ _ => exact ha.elim
  | ty _ => exact ha.elim
  | cls _ => exact ha.elim
  | _ =>
    trivial
    exact h
abbrev sp__law_copied (n : Nat) : FD := copiedF n
theorem mono__law_copied (n : Nat) : MonoF (sp__law_copied n) := mono_copiedF n
theorem ok__law_copied (T : Tx K mg A) : ∀ n : Nat, FnOk P w K mg base (L2N.CX P w) (n + 1) A.a__law_copied A.f__law_copied ["value"] (spD K 1 (sp__law_copied n))
| 0 => fnok_no fun _ _ _ ⟨_, _, h, _⟩ => h
| n + 1 => by
  have IH := ok__law_copied T n
  refine fn_okD T.F__law_copied sc__law_copied (by decide) (fun cdv A0 outer s H E g hK hr cy => ?_)
  refine ⟨_, _, (dss_cons (ds_if (dt_tru cy (de_isi cy (by rfl) T.m_isinstance (da_cons (de_var 0) (da_cons (de_ty (n := "list") (by rfl) T.m_list (by decide +kernel)) da_nil)))) (dss_one (ds_ret (de_lc cy (own := [("item", 1)]) sc__law_copied.nd (di_any cy (de_var 0)) (blkOk_by (own := [("item", 1)]) (N := N__law_copied) (sc := defScope s__law_copied) (by decide +kernel)) (fun _ _ _ _ _ cy => (dg_name 1 sc__law_copied.nd)) (fun _ _ _ _ _ cy => dts_nil) (fun _ _ _ _ _ cy => (de_call cy IH (mono__law_copied n) (hr.mono (by omega)) (by rfl) T.m__law_copied T.F__law_copied.kp T.b__law_copied (da_cons (de_var 1) da_nil)))))) dss_nil)
    (dss_cons (ds_if (dt_tru cy (de_isi cy (by rfl) T.m_isinstance (da_cons (de_var 0) (da_cons (de_ty (n := "tuple") (by rfl) T.m_tuple (by decide +kernel)) da_nil)))) (dss_one (ds_ret (de_tupf cy (by rfl) T.m_tuple (de_lc cy (own := [("item", 1)]) sc__law_copied.nd (di_any cy (de_var 0)) (blkOk_by (own := [("item", 1)]) (N := N__law_copied) (sc := defScope s__law_copied) (by decide +kernel)) (fun _ _ _ _ _ cy => (dg_name 1 sc__law_copied.nd)) (fun _ _ _ _ _ cy => dts_nil) (fun _ _ _ _ _ cy => (de_call cy IH (mono__law_copied n) (hr.mono (by omega)) (by rfl) T.m__law_copied T.F__law_copied.kp T.b__law_copied (da_cons (de_var 1) da_nil))))))) dss_nil)
    (dss_one (ds_ret (de_var 0))))), fun rs Q Ex hlen h => ?_⟩
  obtain ⟨d, rfl, ha, h⟩ := h
  cases d with
  | obj _ _ _ => exact ha.elim
  | ty _ => exact ha.elim
  | cls _ => exact ha.elim
  | tup ds =>
    trivial
    refine ⟨nn_of ha.1, lcW_map (fun _ => true) id _ _ (fun d hd Y N hy _ => ?_) ?_⟩
    · trivial
      refine copied_of (ha.2 d hd) fun r hr => ?_
      rcases hr with rfl | ⟨xs, rfl, rfl⟩
      · exact ⟨_, rfl, hy rfl⟩
      · exact ⟨_, rfl, hy rfl⟩
    · rw [copy_id]
      trivial
      exact h
  | lst ds =>
    trivial
    refine ⟨nn_of ha.1, lcW_map (fun _ => true) id _ _ (fun d hd Y N hy _ => ?_) ?_⟩
    · trivial
      refine copied_of (ha.2 d hd) fun r hr => ?_
      rcases hr with rfl | ⟨xs, rfl, rfl⟩
      · exact ⟨_, rfl, hy rfl⟩
      · exact ⟨_, rfl, hy rfl⟩
    · rw [copy_id]
      trivial
      exact h
  | _ =>
    trivial
    exact h
abbrev sp__law_same (n : Nat) : FD := sameF n
theorem mono__law_same (n : Nat) : MonoF (sp__law_same n) := mono_sameF n
theorem ok__law_same (T : Tx K mg A) : ∀ n : Nat, FnOk P w K mg base (L2N.CX P w) (n + 1) A.a__law_same A.f__law_same ["actual", "due"] (spD K 2 (sp__law_same n))
| 0 => fnok_no fun _ _ _ ⟨_, _, h, _⟩ => h
| n + 1 => by
  have IH := ok__law_same T n
  refine fn_okD T.F__law_same sc__law_same (by decide) (fun cdv A0 outer s H E g hK hr cy => ?_)
  refine ⟨_, _, (dss_cons (ds_if (dt_is cy (de_var 1) de_non) (dss_one (ds_ret (de_is cy (de_var 0) de_non))) dss_nil)
    (dss_cons (ds_if (dt_tru cy (de_isi cy (by rfl) T.m_isinstance (da_cons (de_var 1) (da_cons (de_ty (n := "bool") (by rfl) T.m_bool (by decide +kernel)) da_nil)))) (dss_one (ds_ret (de_and (de_isi cy (by rfl) T.m_isinstance (da_cons (de_var 0) (da_cons (de_ty (n := "bool") (by rfl) T.m_bool (by decide +kernel)) da_nil))) (de_one (de_eq cy (de_var 0) (de_var 1)))))) dss_nil)
    (dss_cons (ds_if (dt_tru cy (de_isi cy (by rfl) T.m_isinstance (da_cons (de_var 1) (da_cons (de_ty (n := "int") (by rfl) T.m_int (by decide +kernel)) da_nil)))) (dss_one (ds_ret (de_and (de_isi cy (by rfl) T.m_isinstance (da_cons (de_var 0) (da_cons (de_ty (n := "int") (by rfl) T.m_int (by decide +kernel)) da_nil))) (de_and (de_not (de_isi cy (by rfl) T.m_isinstance (da_cons (de_var 0) (da_cons (de_ty (n := "bool") (by rfl) T.m_bool (by decide +kernel)) da_nil)))) (de_one (de_eq cy (de_var 0) (de_var 1))))))) dss_nil)
    (dss_cons (ds_if (dt_tru cy (de_isi cy (by rfl) T.m_isinstance (da_cons (de_var 1) (da_cons (de_ty (n := "str") (by rfl) T.m_str (by decide +kernel)) da_nil)))) (dss_one (ds_ret (de_and (de_isi cy (by rfl) T.m_isinstance (da_cons (de_var 0) (da_cons (de_ty (n := "str") (by rfl) T.m_str (by decide +kernel)) da_nil))) (de_one (de_eq cy (de_var 0) (de_var 1)))))) dss_nil)
    (dss_cons (ds_if (DW.dt (dw_and (dt_tru cy (de_isi cy (by rfl) T.m_isinstance (da_cons (de_var 1) (da_cons (de_ty (n := "tuple") (by rfl) T.m_tuple (by decide +kernel)) da_nil)))) (dw_and1 (dt_not (dt_tru cy (de_isi cy (by rfl) T.m_isinstance (da_cons (de_var 0) (da_cons (de_ty (n := "tuple") (by rfl) T.m_tuple (by decide +kernel)) da_nil)))))))) (dss_one (ds_ret de_bl)) dss_nil)
    (dss_cons (ds_if (DW.dt (dw_and (dt_tru cy (de_isi cy (by rfl) T.m_isinstance (da_cons (de_var 1) (da_cons (de_ty (n := "list") (by rfl) T.m_list (by decide +kernel)) da_nil)))) (dw_and1 (dt_not (dt_tru cy (de_isi cy (by rfl) T.m_isinstance (da_cons (de_var 0) (da_cons (de_ty (n := "list") (by rfl) T.m_list (by decide +kernel)) da_nil)))))))) (dss_one (ds_ret de_bl)) dss_nil)
    (dss_cons (ds_if (dt_ne cy (de_len cy (by rfl) T.m_len (de_var 0)) (de_len cy (by rfl) T.m_len (de_var 1))) (dss_one (ds_ret de_bl)) dss_nil)
    (dss_cons (ds_for cy (di_range1 (by rfl) T.m_range (da_cons (de_len cy (by rfl) T.m_len (de_var 1)) da_nil)) (dg_name 2 sc__law_same.nd) (dss_one (ds_if (dt_not (dt_tru cy (de_call cy IH (mono__law_same n) (hr.mono (by omega)) (by rfl) T.m__law_same T.F__law_same.kp T.b__law_same (da_cons (de_item cy (de_var 0) (de_var 2)) (da_cons (de_item cy (de_var 1) (de_var 2)) da_nil))))) (dss_one (ds_ret de_bl)) dss_nil)))
    (dss_one (ds_ret de_bl)))))))))), fun rs Q Ex hlen h => ?_⟩
  obtain ⟨d, rfl, ha, h⟩ := h
  cases d with
  | obj _ _ _ => exact ha.elim
  | ty _ => exact ha.elim
  | cls _ => exact ha.elim
  | tup ds =>
    trivial
    have hl1 : ds.length ≤ 1000 := ha.1
    refine ⟨by omega, by omega, nn_of (by rw [range_len, Int.toNat_natCast]; exact ha.1), ?_⟩
    refine forW_inv (fun i env => ∃ z : Option SV, env = [some (.val (.tup ds)), some (.val (.tup ds)), z]) (fun i d env N hi ⟨z, e⟩ hN => ?A) (fun env ⟨z, e⟩ => ?B) _ ⟨_, rfl⟩
    case A =>
      subst e
      obtain ⟨hj, rfl⟩ := range_at hi
      rw [Int.toNat_natCast] at hj
      trivial
      have e2 : ds[i]? = some (ds[i]'hj) := List.getElem?_eq_getElem hj
      rw [Int.zero_add]
      refine atK_at e2 ?_
      trivial
      refine atK_at e2 ?_
      trivial
      refine same_of (ha.2 _ (List.getElem_mem hj)) rfl ?_
      trivial
      exact hN _ ⟨_, rfl⟩
    case B =>
      subst e
      trivial
      exact h
  | lst ds =>
    trivial
    have hl1 : ds.length ≤ 1000 := ha.1
    refine ⟨by omega, by omega, nn_of (by rw [range_len, Int.toNat_natCast]; exact ha.1), ?_⟩
    refine forW_inv (fun i env => ∃ z : Option SV, env = [some (.val (.lst ds)), some (.val (.lst ds)), z]) (fun i d env N hi ⟨z, e⟩ hN => ?A) (fun env ⟨z, e⟩ => ?B) _ ⟨_, rfl⟩
    case A =>
      subst e
      obtain ⟨hj, rfl⟩ := range_at hi
      rw [Int.toNat_natCast] at hj
      trivial
      have e2 : ds[i]? = some (ds[i]'hj) := List.getElem?_eq_getElem hj
      rw [Int.zero_add]
      refine atK_at e2 ?_
      trivial
      refine atK_at e2 ?_
      trivial
      refine same_of (ha.2 _ (List.getElem_mem hj)) rfl ?_
      trivial
      exact hN _ ⟨_, rfl⟩
    case B =>
      subst e
      trivial
      exact h
  | _ =>
    trivial
    exact h
abbrev sp__law_shuffled : FD := shuffledF
theorem mono__law_shuffled : MonoF sp__law_shuffled := mono_shuffledF
theorem ok__law_shuffled (T : Tx K mg A) : FnOk P w K mg base (L2N.CX P w) 3 A.a__law_shuffled A.f__law_shuffled ["store", "items"] (spD K 2 sp__law_shuffled) := by
  refine fn_okD T.F__law_shuffled sc__law_shuffled (by decide) (fun cdv A0 outer s H E g hK hr cy => ?_)
  refine ⟨_, _, (dss_cons (ds_asg 2 (de_listf cy (by rfl) T.m_list (de_var 1)) sc__law_shuffled.nd)
    (dss_cons (ds_for cy (di_range1 (by rfl) T.m_range (da_cons (de_sub cy (de_len cy (by rfl) T.m_len (de_var 2)) de_int) da_nil)) (dg_name 3 sc__law_shuffled.nd) (dss_cons (ds_asg 4 (DE.frz (de_add cy (de_var 3) (de_call cy (ok__law_take T) mono__law_take (hr.mono (by decide)) (by rfl) T.m__law_take T.F__law_take.kp T.b__law_take (da_cons (de_var 0) (da_cons (de_sub cy (de_len cy (by rfl) T.m_len (de_var 2)) (de_var 3)) da_nil))))) sc__law_shuffled.nd)
    (dss_cons (ds_asg 5 (DE.frz (de_item cy (de_var 2) (de_var 3))) sc__law_shuffled.nd)
    (dss_cons (ds_store 2 (de_var 3) (de_item cy (de_var 2) (de_var 4)) (pv 2))
    (dss_one (ds_store 2 (de_var 4) (de_var 5) (pv 2)))))))
    (dss_one (ds_ret (de_var 2))))), fun rs Q Ex hlen h => ?_⟩
  obtain ⟨d, ds, rfl, hd, hl, h⟩ := h
  cases d <;> simp only [seqD, Option.some.injEq, reduceCtorEq] at hd <;> (have hd := hd.symm; subst hd)
  · trivial
    refine ⟨by omega, by omega, nn_of (by rw [range_len]; omega), ?_⟩
    refine forW_inv (fun i env => ∃ (a b c : Option SV) (ys : List D), env = [some .sto, some (.val (.tup ds)), some (.own ys), a, b, c] ∧ ys.Perm ds) (fun i d env N hi ⟨a, b, c, ys, e, hp⟩ hN => ?Atup) (fun env ⟨a, b, c, ys, e, hp⟩ => ?Btup) _ ⟨_, _, _, ds, rfl, List.Perm.refl _⟩
    case Atup =>
      subst e
      obtain ⟨hj, rfl⟩ := range_at hi
      have hlen := hp.length_eq
      rw [Int.zero_add]
      trivial
      refine take_of (by omega) fun r r0 _ r1 => ?_
      trivial
      have hi1 : i < ys.length := by omega
      have ho1 : i + r.toNat < ys.length := by
        by_cases c2 : (2 : Int) ≤ (ys.length : Int) - (i : Int)
        · have := r1 c2
          omega
        · omega
      have eo : (i : Int) + r = ((i + r.toNat : Nat) : Int) := by omega
      rw [eo]
      have e1 : ys[i]? = some (ys[i]'hi1) := List.getElem?_eq_getElem hi1
      have e2 : ys[i + r.toNat]? = some (ys[i + r.toNat]'ho1) := List.getElem?_eq_getElem ho1
      refine atK_at e1 ?_
      trivial
      refine atK_at e2 ?_
      trivial
      refine setK_at hi1 ?_
      trivial
      refine setK_at (by rw [List.length_set]; exact ho1) ?_
      trivial
      exact hN _ ⟨_, _, _, _, rfl, (List.set_set_perm hi1 ho1).trans hp⟩
    case Btup =>
      subst e
      trivial
      exact h _ hp
  · trivial
    refine ⟨by omega, by omega, nn_of (by rw [range_len]; omega), ?_⟩
    refine forW_inv (fun i env => ∃ (a b c : Option SV) (ys : List D), env = [some .sto, some (.val (.lst ds)), some (.own ys), a, b, c] ∧ ys.Perm ds) (fun i d env N hi ⟨a, b, c, ys, e, hp⟩ hN => ?Alst) (fun env ⟨a, b, c, ys, e, hp⟩ => ?Blst) _ ⟨_, _, _, ds, rfl, List.Perm.refl _⟩
    case Alst =>
      subst e
      obtain ⟨hj, rfl⟩ := range_at hi
      have hlen := hp.length_eq
      rw [Int.zero_add]
      trivial
      refine take_of (by omega) fun r r0 _ r1 => ?_
      trivial
      have hi1 : i < ys.length := by omega
      have ho1 : i + r.toNat < ys.length := by
        by_cases c2 : (2 : Int) ≤ (ys.length : Int) - (i : Int)
        · have := r1 c2
          omega
        · omega
      have eo : (i : Int) + r = ((i + r.toNat : Nat) : Int) := by omega
      rw [eo]
      have e1 : ys[i]? = some (ys[i]'hi1) := List.getElem?_eq_getElem hi1
      have e2 : ys[i + r.toNat]? = some (ys[i + r.toNat]'ho1) := List.getElem?_eq_getElem ho1
      refine atK_at e1 ?_
      trivial
      refine atK_at e2 ?_
      trivial
      refine setK_at hi1 ?_
      trivial
      refine setK_at (by rw [List.length_set]; exact ho1) ?_
      trivial
      exact hN _ ⟨_, _, _, _, rfl, (List.set_set_perm hi1 ho1).trans hp⟩
    case Blst =>
      subst e
      trivial
      exact h _ hp
abbrev sp__law_few : FD := fewF
theorem mono__law_few : MonoF sp__law_few := mono_fewF
theorem ok__law_few (T : Tx K mg A) : FnOk P w K mg base (L2N.CX P w) 3 A.a__law_few A.f__law_few ["store", "items", "count"] (spD K 3 sp__law_few) := by
  refine fn_okD T.F__law_few sc__law_few (by decide) (fun cdv A0 outer s H E g hK hr cy => ?_)
  refine ⟨_, _, (dss_cons (ds_asg 3 (de_listf cy (by rfl) T.m_list (de_var 1)) sc__law_few.nd)
    (dss_cons (ds_for cy (di_range1 (by rfl) T.m_range (da_cons (de_min2 cy (by rfl) T.m_min (da_cons (de_var 2) (da_cons (de_sub cy (de_len cy (by rfl) T.m_len (de_var 3)) de_int) da_nil))) da_nil)) (dg_name 4 sc__law_few.nd) (dss_cons (ds_asg 5 (DE.frz (de_add cy (de_var 4) (de_call cy (ok__law_take T) mono__law_take (hr.mono (by decide)) (by rfl) T.m__law_take T.F__law_take.kp T.b__law_take (da_cons (de_var 0) (da_cons (de_sub cy (de_len cy (by rfl) T.m_len (de_var 3)) (de_var 4)) da_nil))))) sc__law_few.nd)
    (dss_cons (ds_asg 6 (DE.frz (de_item cy (de_var 3) (de_var 4))) sc__law_few.nd)
    (dss_cons (ds_store 3 (de_var 4) (de_item cy (de_var 3) (de_var 5)) (pv 3))
    (dss_one (ds_store 3 (de_var 5) (de_var 6) (pv 3)))))))
    (dss_one (ds_ret (de_slice cy (de_var 3) do_none (do_some (de_max2 cy (by rfl) T.m_max (da_cons de_int (da_cons (de_var 2) da_nil))))))))), fun rs Q Ex hlen h => ?_⟩
  obtain ⟨d, ds, n, rfl, hd, hl, hn, h⟩ := h
  cases d <;> simp only [seqD, Option.some.injEq, reduceCtorEq] at hd <;> (have hd := hd.symm; subst hd)
  · trivial
    refine ⟨by split <;> omega, by split <;> omega, nn_of (by rw [range_len]; split <;> omega), ?_⟩
    refine forW_inv (fun i env => ∃ (a b c : Option SV) (ys : List D), env = [some .sto, some (.val (.tup ds)), some (.val (.int n)), some (.own ys), a, b, c] ∧ ys.Perm ds) (fun i d env N hi ⟨a, b, c, ys, e, hp⟩ hN => ?Atup) (fun env ⟨a, b, c, ys, e, hp⟩ => ?Btup) _ ⟨_, _, _, ds, rfl, List.Perm.refl _⟩
    case Atup =>
      subst e
      obtain ⟨hj, rfl⟩ := range_at hi
      have hlen := hp.length_eq
      have hj2 : (i : Int) < (ds.length : Int) - 1 := by split at hj <;> omega
      rw [Int.zero_add]
      trivial
      refine take_of (by omega) fun r r0 _ r1 => ?_
      trivial
      have hi1 : i < ys.length := by omega
      have ho1 : i + r.toNat < ys.length := by
        by_cases c2 : (2 : Int) ≤ (ys.length : Int) - (i : Int)
        · have := r1 c2
          omega
        · omega
      have eo : (i : Int) + r = ((i + r.toNat : Nat) : Int) := by omega
      rw [eo]
      have e1 : ys[i]? = some (ys[i]'hi1) := List.getElem?_eq_getElem hi1
      have e2 : ys[i + r.toNat]? = some (ys[i + r.toNat]'ho1) := List.getElem?_eq_getElem ho1
      refine atK_at e1 ?_
      trivial
      refine atK_at e2 ?_
      trivial
      refine setK_at hi1 ?_
      trivial
      refine setK_at (by rw [List.length_set]; exact ho1) ?_
      trivial
      exact hN _ ⟨_, _, _, _, rfl, (List.set_set_perm hi1 ho1).trans hp⟩
    case Btup =>
      subst e
      trivial
      have hlen := hp.length_eq
      have hm : (0 : Int) ≤ (if n > 0 then n else 0) := by split <;> omega
      rw [cutD_take hm]
      refine h _ (ys.drop (if n > 0 then n else 0).toNat) (by rw [List.take_append_drop]; exact hp) fun n0 n1 => ?_
      rw [List.length_take]
      split <;> omega
  · trivial
    refine ⟨by split <;> omega, by split <;> omega, nn_of (by rw [range_len]; split <;> omega), ?_⟩
    refine forW_inv (fun i env => ∃ (a b c : Option SV) (ys : List D), env = [some .sto, some (.val (.lst ds)), some (.val (.int n)), some (.own ys), a, b, c] ∧ ys.Perm ds) (fun i d env N hi ⟨a, b, c, ys, e, hp⟩ hN => ?Alst) (fun env ⟨a, b, c, ys, e, hp⟩ => ?Blst) _ ⟨_, _, _, ds, rfl, List.Perm.refl _⟩
    case Alst =>
      subst e
      obtain ⟨hj, rfl⟩ := range_at hi
      have hlen := hp.length_eq
      have hj2 : (i : Int) < (ds.length : Int) - 1 := by split at hj <;> omega
      rw [Int.zero_add]
      trivial
      refine take_of (by omega) fun r r0 _ r1 => ?_
      trivial
      have hi1 : i < ys.length := by omega
      have ho1 : i + r.toNat < ys.length := by
        by_cases c2 : (2 : Int) ≤ (ys.length : Int) - (i : Int)
        · have := r1 c2
          omega
        · omega
      have eo : (i : Int) + r = ((i + r.toNat : Nat) : Int) := by omega
      rw [eo]
      have e1 : ys[i]? = some (ys[i]'hi1) := List.getElem?_eq_getElem hi1
      have e2 : ys[i + r.toNat]? = some (ys[i + r.toNat]'ho1) := List.getElem?_eq_getElem ho1
      refine atK_at e1 ?_
      trivial
      refine atK_at e2 ?_
      trivial
      refine setK_at hi1 ?_
      trivial
      refine setK_at (by rw [List.length_set]; exact ho1) ?_
      trivial
      exact hN _ ⟨_, _, _, _, rfl, (List.set_set_perm hi1 ho1).trans hp⟩
    case Blst =>
      subst e
      trivial
      have hlen := hp.length_eq
      have hm : (0 : Int) ≤ (if n > 0 then n else 0) := by split <;> omega
      rw [cutD_take hm]
      refine h _ (ys.drop (if n > 0 then n else 0).toNat) (by rw [List.take_append_drop]; exact hp) fun n0 n1 => ?_
      rw [List.length_take]
      split <;> omega
abbrev sp__law_passed : FD := passedF
theorem mono__law_passed : MonoF sp__law_passed := mono_passedF
theorem ok__law_passed (T : Tx K mg A) : FnOk P w K mg base (L2N.CX P w) 4 A.a__law_passed A.f__law_passed ["store", "items"] (spD K 2 sp__law_passed) := by
  refine fn_okD T.F__law_passed sc__law_passed (by decide) (fun cdv A0 outer s H E g hK hr cy => ?_)
  refine ⟨_, _, (dss_cons (ds_asg 2 (de_call cy (ok__law_shuffled T) mono__law_shuffled (hr.mono (by decide)) (by rfl) T.m__law_shuffled T.F__law_shuffled.kp T.b__law_shuffled (da_cons (de_var 0) (da_cons (de_var 1) da_nil))) sc__law_passed.nd)
    (dss_cons (ds_if (dt_tru cy (de_call cy (ok__law_once T) mono__law_once (hr.mono (by decide)) (by rfl) T.m__law_once T.F__law_once.kp T.b__law_once (da_cons (de_var 0) (da_cons de_int da_nil)))) (dss_one (ds_ret (de_tupf cy (by rfl) T.m_tuple (de_var 2)))) dss_nil)
    (dss_one (ds_ret (de_var 2))))), fun rs Q Ex hlen h => ?_⟩
  obtain ⟨d, ds, rfl, hd, hl, h⟩ := h
  trivial
  refine shuffled_of hd hl fun ys hp => ?_
  trivial
  refine once_of (by decide) fun b => ?_
  cases b
  · trivial
    exact (h ys hp).1
  · trivial
    exact (h ys hp).2
end
end K38
namespace K38
open PySem PySem.Spec L2 DL
section
variable {P : Program} {w : World} {K : PySem.W.Frag} {mg : Str → Option Value} {base : Heap} {A : TxA}
local macro_rules | `(tactic| trivial) => `(tactic| simp -dsimp only [↓W_lst, ↓W_lst1, ↓W_isS, ↓W_bt, ↓W_bc, ↓W_bz, ↓W_asgG, ↓W_valK, ↓W_rg2, ↓W_rg2k, ↓W_lc2, ↓W_ltD, ↓List.zip_cons_cons, ↓List.zip_nil_left, ↓W_lent, ↓W_lent1, ↓W_lent2, ↓W_lent3, ↓W_lent4, ↓W_mulL, ↓W_var, ↓W_var1, ↓W_var2, ↓W_var3, ↓W_c, ↓W_frz, ↓W_frz1, ↓W_frz2, ↓W_frz3, ↓W_frz4, ↓W_op, ↓W_call, ↓W_fn, ↓W_fn0, ↓W_fnK, ↓W_nil, ↓W_cons, ↓W_add1, ↓W_add2, ↓W_add3, ↓W_add4, ↓W_add5, ↓W_add6, ↓W_add7, ↓W_int, ↓W_int0, ↓W_mul1, ↓W_mul2, ↓W_eq1, ↓W_eq2, ↓W_eq3, ↓W_eq4, ↓W_ne1, ↓W_ne2, ↓W_ne3, ↓W_in1, ↓W_in2, ↓W_in3, ↓W_in4, ↓W_in5, ↓W_is1, ↓W_is2, ↓W_at, ↓W_atS, ↓W_ix1, ↓W_ix2, ↓W_ix3, ↓W_ix4, ↓W_sl, ↓W_on, ↓W_os, ↓W_part, ↓W_sl1, ↓W_sl2, ↓W_sl3, ↓W_sl4, ↓W_len1, ↓W_len2, ↓W_len3, ↓W_len4, ↓W_abs, ↓W_intf, ↓W_strf, ↓W_list1, ↓W_list2, ↓W_list3, ↓W_tup1, ↓W_tup2, ↓W_tup3, ↓W_max, ↓W_min, ↓W_allK, ↓W_all1, ↓W_isi1, ↓W_isi2, ↓W_k_ns, ↓W_k_bs, ↓W_k_is, ↓W_k_ss, ↓W_k_ts, ↓W_k_ls, ↓W_k_nb, ↓W_k_bb, ↓W_k_ib, ↓W_k_sb, ↓W_k_tb, ↓W_k_lb, ↓W_k_ni, ↓W_k_bi, ↓W_k_ii, ↓W_k_si, ↓W_k_ti, ↓W_k_li, ↓W_k_nt, ↓W_k_bt, ↓W_k_it, ↓W_k_st, ↓W_k_tt, ↓W_k_lt, ↓W_k_nl, ↓W_k_bl, ↓W_k_il, ↓W_k_sl, ↓W_k_tl, ↓W_k_ll, ↓W_valsK, ↓W_etup, ↓W_elst, ↓W_vals0, ↓W_vals1, ↓W_bool, ↓W_bool1, ↓W_tand, ↓W_tor, ↓W_tnot, ↓W_tru, ↓W_tru1, ↓W_tru2, ↓W_tru3, ↓W_tru4, ↓W_tru5, ↓W_tru6, ↓W_tru7, ↓W_bo, ↓W_eand, ↓W_eor, ↓W_enot, ↓W_ink, ↓W_eneg, ↓W_snil, ↓W_seq, ↓W_asg, ↓W_asg1, ↓W_asg2, ↓W_asg3, ↓W_ret, ↓W_hand1, ↓W_hand2, ↓W_hand3, ↓W_hand4, ↓W_expr, ↓W_if, ↓W_for, ↓W_any, ↓W_it1, ↓W_it2, ↓W_it3, ↓W_rg1, ↓W_lc, ↓W_bn, ↓W_yes, ↓W_ownK, ↓W_mut, ↓W_app, ↓W_ins, ↓W_setK, ↓W_stK, ↓W_setIx, ↓W_strK, ↓W_upper, ↓W_join1, ↓W_start, ↓W_slot1, ↓W_slot2, ↓W_arg1, ↓W_arg2, ↓W_sFrz, ↓W_strb, ↓W_sortK, ↓W_sorted1, ↓W_sorted2, ↓W_sorted3, ↓W_loan, ↓W_lent1, ↓W_lent2, ↓W_lent3, ↓W_lent4, ↓W_lent, ↓W_lfR1, ↓W_lfR2, ↓W_clear, ↓W_reverse, ↓W_extend1, ↓W_extend2, ↓W_intfb, ↓W_sidx, ↓W_raiseK, ↓W_raise, ↓W_try, ↓W_isPK, ↓W_fld, ↓W_errK, ↓W_errO, ↓W_cut, ↓W_startL, ↓W_rev3, ↓W_lrev, ↓W_revK1, ↓W_revK2, ↓W_rev2, ↓W_keepL, ↓W_mk, ↓W_mkKw, ↓W_ini0, ↓W_ini1, ↓W_ini2, ↓W_blK, ↓W_lnK, ↓W_lbK, ↓W_inO, ↓W_lenO, ↓W_boolO, ↓W_eqA, ↓W_isO, ↓W_prop, ↓W_prK, ↓W_itO, ↓W_lcX, ↓W_inD1, ↓W_inD2, ↓W_inD3, ↓W_en, ↓W_en1, ↓W_en2, ↓W_bt, ↓W_bc, ↓W_bz, ↓W_chK, ↓W_chain, ↓W_startO, ↓W_slotO1, ↓W_slotO2, ↓W_slotO3, ↓W_tKeep, ↓W_tOrE, ↓W_tAndE, ↓W_tNotE, ↓W_ifE, ↓W_anyI, ↓W_anyK, ↓W_meth, ↓W_mtK, ↓W_meth0, ↓W_mt0K, ↓W_methK, ↓W_mtkK, ↓W_bare0, ↓W_bare1, ↓W_trev, ↓W_trK, ↓W_obj, ↓W_mkK, ↓W_sortedD1, ↓W_sortedD2, ↓W_sortedD3, ↓W_raise2, ↓W_raiseK2, ↓W_setOf1, ↓W_setOf2, ↓W_setOf3, ↓W_sc, endsD, endsTry, wipeE, List.foldr_cons, List.foldr_nil, List.length_cons, List.length_nil, List.map_cons, List.map_nil, List.cons_append, List.nil_append, List.append_nil, List.replicate, List.getElem?_cons_zero, List.getElem?_cons_succ, List.getElem?_nil, List.set_cons_zero, List.set_cons_succ, Nat.reduceAdd, Nat.reduceSub, Nat.zero_add, if_true, if_false, Bool.false_eq_true, Bool.not_true, Bool.not_false, true_and, and_true, List.forall_mem_cons, List.mem_cons, List.not_mem_nil, or_false, forall_eq_or_imp, forall_eq, false_and, and_false, implies_true, false_or, Option.map_some, Option.map_none, ite_self, Bool.and_true, Bool.true_and, Bool.and_false, Bool.false_and, List.forall_mem_nil, decide_true, decide_false, isNonD, signsD, lf, lfL, eq_self])
abbrev sp_check_name (c : EK → Addr) : FD := checkF c
theorem mono_check_name {c : EK → Addr} : MonoF (sp_check_name c) := mono_checkF
theorem ok_check_name (T : Tx K mg A) : FnOk P w K mg base (L2N.CX P w) 3 A.a_check_name A.f_check_name ["value"] (spD K 1 (sp_check_name (cA A))) := by
  refine fn_okD T.F_check_name sc_check_name (by decide) (fun cdv A0 outer s H E g hK hr cy => ?_)
  refine ⟨_, _, (dss_one (ds_if (dt_not (dt_tru cy (de_call cy (ok_is_name T) mono_is_name (hr.mono (by decide)) (by rfl) T.m_is_name T.F_is_name.kp T.b_is_name (da_cons (de_var 0) da_nil)))) (dss_one (ds_raise cy (EX_BadName T) (hr.mono (by decide)) (by rfl) (de_var 0))) dss_nil)), fun rs Q Ex hlen h => ?_⟩
  obtain ⟨d, rfl, ha, h1, h2⟩ := h
  trivial
  refine isname_of ha ?_
  cases hn : isNameD d
  · trivial
    exact h2 hn
  · trivial
    exact h1 hn
abbrev sp__law_isname : FD := isnameF
theorem mono__law_isname : MonoF sp__law_isname := mono_isnameF
theorem ok__law_isname (T : Tx K mg A) : FnOk P w K mg base (L2N.CX P w) 1 A.a__law_isname A.f__law_isname ["value"] (spD K 1 sp__law_isname) := by
  refine fn_okD T.F__law_isname sc__law_isname (by decide) (fun cdv A0 outer s H E g hK hr cy => ?_)
  refine ⟨_, _, (dss_cons (ds_if (DW.dt (dw_or (dt_not (dt_tru cy (de_isi cy (by rfl) T.m_isinstance (da_cons (de_var 0) (da_cons (de_ty (n := "str") (by rfl) T.m_str (by decide +kernel)) da_nil))))) (dw_or (dt_lt cy (de_len cy (by rfl) T.m_len (de_var 0)) de_int) (dw_or1 (dt_gt cy (de_len cy (by rfl) T.m_len (de_var 0)) de_int))))) (dss_one (ds_ret de_bl)) dss_nil)
    (dss_cons (ds_for cy (di_range1 (by rfl) T.m_range (da_cons (de_len cy (by rfl) T.m_len (de_var 0)) da_nil)) (dg_name 1 sc__law_isname.nd) (dss_cons (ds_if (DW.dt (dw_and (dt_gt cy (de_var 1) de_int) (dw_and1 (dt_in cy (de_item cy (de_var 0) (de_var 1)) de_str)))) (dss_one ds_continue) dss_nil)
    (dss_one (ds_if (dt_notin cy (de_item cy (de_var 0) (de_var 1)) de_str) (dss_one (ds_ret de_bl)) dss_nil))))
    (dss_one (ds_ret de_bl)))), fun rs Q Ex hlen h => ?_⟩
  obtain ⟨d, rfl, ha, h⟩ := h
  cases d with
  | str s =>
    have l1 : s.length ≤ 5000 := ha
    trivial
    refine ⟨lim_of (by omega), iteB (fun c1 => ?_) (fun c1 => ?_)⟩
    · have e : isNameD (.str s) = false := isn_short (by have := of_decide_eq_true c1; omega)
      rw [e] at h
      exact h
    refine ⟨lim_of (by omega), iteB (fun c2 => ?_) (fun c2 => ?_)⟩
    · have e : isNameD (.str s) = false := isn_long (by have := of_decide_eq_true c2; omega)
      rw [e] at h
      exact h
    have l2 : s.length ≤ 8 := by have := of_decide_eq_false c2; omega
    have l3 : 0 < s.length := by have := of_decide_eq_false c1; omega
    refine ⟨lim_of (by omega), by omega, by omega, nn_of (by rw [range_len]; omega), ?_⟩
    refine forW_inv (fun i env => ∃ z : Option SV, env = [some (.val (.str s)), z] ∧ ∀ (j c : Nat), j < i → s.cps.toList[j]? = some c → c ∈ SIG.cps.toList ∧ (j = 0 → c ∈ LET.cps.toList)) (fun i d env N hi ⟨z, e, hp⟩ hN => ?_) (fun env ⟨z, e, hp⟩ => ?_) _ ⟨_, rfl, fun j c hj => absurd hj (by omega)⟩
    · subst e
      obtain ⟨hj, rfl⟩ := range_at hi
      have hj2 : i < s.cps.toList.length := by rw [chars_len]; omega
      rw [Int.zero_add]
      have e2 : s.cps.toList[i]? = some (s.cps.toList[i]'hj2) := List.getElem?_eq_getElem hj2
      generalize s.cps.toList[i]'hj2 = c at e2
      have e3 : atI s.cps.toList (i : Int) = some c := atI_nat e2
      have step : (c ∈ SIG.cps.toList ∧ (i = 0 → c ∈ LET.cps.toList)) → ∀ (j c' : Nat), j < i + 1 → s.cps.toList[j]? = some c' → c' ∈ SIG.cps.toList ∧ (j = 0 → c' ∈ LET.cps.toList) := fun hc j c' hj hc' => by
        by_cases q : j < i
        · exact hp j c' q hc'
        · have : j = i := by omega
          subst this
          rw [e2] at hc'
          cases hc'
          exact hc
      have tail : ∀ hyp : ¬ (0 < i ∧ c ∈ DIG.cps.toList), (c ∈ LET.cps.toList → N [some (.val (.str s)), some (.val (.int i))]) ∧ (c ∉ LET.cps.toList → isNameD (.str s) = false) := fun hyp => by
        refine ⟨fun hc => hN _ ⟨_, rfl, step ⟨let_sig c hc, fun _ => hc⟩⟩, fun hc => ?_⟩
        by_cases q : i = 0
        · subst q
          exact isn_bad0 e2 hc
        · refine isn_bad (List.mem_of_getElem? e2) fun z => ?_
          rcases (sig_iff c).mp z with z | z
          · exact hyp ⟨by omega, z⟩
          · exact hc z
      trivial
      refine iteB (fun c3 => ?_) (fun c3 => ?_)
      · have i0 : 0 < i := by have := of_decide_eq_true c3; omega
        refine ⟨lim_of (by omega), c, e3, ?_⟩
        trivial
        refine iteB (fun c4 => ?_) (fun c4 => ?_)
        · have hc : c ∈ DIG.cps.toList := of_decide_eq_true c4
          exact hN _ ⟨_, rfl, step ⟨(sig_iff c).mpr (.inl hc), fun z => absurd z (by omega)⟩⟩
        · have hc : c ∉ DIG.cps.toList := of_decide_eq_false c4
          have t := tail fun z => hc z.2
          refine ⟨lim_of (by omega), c, e3, ?_⟩
          trivial
          refine iteB (fun c5 => ?_) (fun c5 => ?_)
          · have e := t.2 (show c ∉ LET.cps.toList by simpa [LET] using c5)
            rw [e] at h
            exact h
          · exact t.1 (show c ∈ LET.cps.toList by simpa [LET] using c5)
      · have t := tail fun z => (of_decide_eq_false c3) (by omega)
        refine ⟨lim_of (by omega), c, e3, ?_⟩
        trivial
        refine iteB (fun c5 => ?_) (fun c5 => ?_)
        · have e := t.2 (show c ∉ LET.cps.toList by simpa [LET] using c5)
          rw [e] at h
          exact h
        · exact t.1 (show c ∈ LET.cps.toList by simpa [LET] using c5)
    · subst e
      have e : isNameD (.str s) = true := isn_good l3 l2 fun j c hj => hp j c (by
        have := (List.getElem?_eq_some_iff.mp hj).1
        rw [chars_len] at this
        rw [range_len]
        omega) hj
      rw [e] at h
      exact h
  | obj _ _ _ => exact ha.elim
  | ty _ => exact ha.elim
  | cls _ => exact ha.elim
  | _ =>
    trivial
    exact h
abbrev sp_check_whole (c : EK → Addr) : FD := cwholeF c
theorem mono_check_whole {c : EK → Addr} : MonoF (sp_check_whole c) := mono_cwholeF
theorem ok_check_whole (T : Tx K mg A) : FnOk P w K mg base (L2N.CX P w) 3 A.a_check_whole A.f_check_whole ["value"] (spD K 1 (sp_check_whole (cA A))) := by
  refine fn_okD T.F_check_whole sc_check_whole (by decide) (fun cdv A0 outer s H E g hK hr cy => ?_)
  refine ⟨_, _, (dss_one (ds_if (DW.dt (dw_or (dt_tru cy (de_isi cy (by rfl) T.m_isinstance (da_cons (de_var 0) (da_cons (de_ty (n := "bool") (by rfl) T.m_bool (by decide +kernel)) da_nil)))) (dw_or1 (dt_not (dt_tru cy (de_isi cy (by rfl) T.m_isinstance (da_cons (de_var 0) (da_cons (de_ty (n := "int") (by rfl) T.m_int (by decide +kernel)) da_nil)))))))) (dss_one (ds_raise cy (EX_BadNumber T) (hr.mono (by decide)) (by rfl) (de_var 0))) dss_nil)), fun rs Q Ex hlen h => ?_⟩
  obtain ⟨d, rfl, hf, h⟩ := h
  cases d <;> first
    | exact hf.elim
    | (trivial
       exact h)
abbrev sp_check_number (c : EK → Addr) : FD := cnumF c
theorem mono_check_number {c : EK → Addr} : MonoF (sp_check_number c) := mono_cnumF
theorem ok_check_number (T : Tx K mg A) : FnOk P w K mg base (L2N.CX P w) 4 A.a_check_number A.f_check_number ["value", "low", "high"] (spD K 3 (sp_check_number (cA A))) := by
  refine fn_okD T.F_check_number sc_check_number (by decide) (fun cdv A0 outer s H E g hK hr cy => ?_)
  refine ⟨_, _, (dss_cons (ds_expr (de_call cy (ok_check_whole T) mono_check_whole (hr.mono (by decide)) (by rfl) T.m_check_whole T.F_check_whole.kp T.b_check_whole (da_cons (de_var 0) da_nil)))
    (dss_one (ds_if (DW.dt (dw_or (dt_lt cy (de_var 0) (de_var 1)) (dw_or1 (dt_gt cy (de_var 0) (de_var 2))))) (dss_one (ds_raise cy (EX_BadNumber T) (hr.mono (by decide)) (by rfl) (de_var 0))) dss_nil))), fun rs Q Ex hlen h => ?_⟩
  obtain ⟨d, lo, hi, rfl, hf, h⟩ := h
  trivial
  refine cwhole_of hf ?_
  cases d with
  | int i =>
    show (_ : Prop)
    simp only [wholeDue, toldK]
    trivial
    rw [numDue_int] at h
    refine iteB (fun c => ?_) (fun c => iteB (fun c2 => ?_) (fun c2 => ?_))
    · have := of_decide_eq_true c
      rw [if_neg (by omega)] at h
      exact h
    · have := of_decide_eq_true c2
      rw [if_neg (by omega)] at h
      exact h
    · have c := of_decide_eq_false c
      have c2 := of_decide_eq_false c2
      rw [if_pos (by omega)] at h
      exact h
  | _ => exact h
end
end K38
namespace K38
open PySem PySem.Spec L2 DL
section
variable {P : Program} {w : World} {K : PySem.W.Frag} {mg : Str → Option Value} {base : Heap} {A : TxA}
local macro_rules | `(tactic| trivial) => `(tactic| simp -dsimp only [↓W_lst, ↓W_lst1, ↓W_isS, ↓W_bt, ↓W_bc, ↓W_bz, ↓W_asgG, ↓W_valK, ↓W_rg2, ↓W_rg2k, ↓W_lc2, ↓W_ltD, ↓List.zip_cons_cons, ↓List.zip_nil_left, ↓W_lent, ↓W_lent1, ↓W_lent2, ↓W_lent3, ↓W_lent4, ↓W_mulL, ↓W_var, ↓W_var1, ↓W_var2, ↓W_var3, ↓W_c, ↓W_frz, ↓W_frz1, ↓W_frz2, ↓W_frz3, ↓W_frz4, ↓W_op, ↓W_call, ↓W_fn, ↓W_fn0, ↓W_fnK, ↓W_nil, ↓W_cons, ↓W_add1, ↓W_add2, ↓W_add3, ↓W_add4, ↓W_add5, ↓W_add6, ↓W_add7, ↓W_int, ↓W_int0, ↓W_mul1, ↓W_mul2, ↓W_eq1, ↓W_eq2, ↓W_eq3, ↓W_eq4, ↓W_ne1, ↓W_ne2, ↓W_ne3, ↓W_in1, ↓W_in2, ↓W_in3, ↓W_in4, ↓W_in5, ↓W_is1, ↓W_is2, ↓W_at, ↓W_atS, ↓W_ix1, ↓W_ix2, ↓W_ix3, ↓W_ix4, ↓W_sl, ↓W_on, ↓W_os, ↓W_part, ↓W_sl1, ↓W_sl2, ↓W_sl3, ↓W_sl4, ↓W_len1, ↓W_len2, ↓W_len3, ↓W_len4, ↓W_abs, ↓W_intf, ↓W_strf, ↓W_list1, ↓W_list2, ↓W_list3, ↓W_tup1, ↓W_tup2, ↓W_tup3, ↓W_max, ↓W_min, ↓W_allK, ↓W_all1, ↓W_isi1, ↓W_isi2, ↓W_k_ns, ↓W_k_bs, ↓W_k_is, ↓W_k_ss, ↓W_k_ts, ↓W_k_ls, ↓W_k_nb, ↓W_k_bb, ↓W_k_ib, ↓W_k_sb, ↓W_k_tb, ↓W_k_lb, ↓W_k_ni, ↓W_k_bi, ↓W_k_ii, ↓W_k_si, ↓W_k_ti, ↓W_k_li, ↓W_k_nt, ↓W_k_bt, ↓W_k_it, ↓W_k_st, ↓W_k_tt, ↓W_k_lt, ↓W_k_nl, ↓W_k_bl, ↓W_k_il, ↓W_k_sl, ↓W_k_tl, ↓W_k_ll, ↓W_valsK, ↓W_etup, ↓W_elst, ↓W_vals0, ↓W_vals1, ↓W_bool, ↓W_bool1, ↓W_tand, ↓W_tor, ↓W_tnot, ↓W_tru, ↓W_tru1, ↓W_tru2, ↓W_tru3, ↓W_tru4, ↓W_tru5, ↓W_tru6, ↓W_tru7, ↓W_bo, ↓W_eand, ↓W_eor, ↓W_enot, ↓W_ink, ↓W_eneg, ↓W_snil, ↓W_seq, ↓W_asg, ↓W_asg1, ↓W_asg2, ↓W_asg3, ↓W_ret, ↓W_hand1, ↓W_hand2, ↓W_hand3, ↓W_hand4, ↓W_expr, ↓W_if, ↓W_for, ↓W_any, ↓W_it1, ↓W_it2, ↓W_it3, ↓W_rg1, ↓W_lc, ↓W_bn, ↓W_yes, ↓W_ownK, ↓W_mut, ↓W_app, ↓W_ins, ↓W_setK, ↓W_stK, ↓W_setIx, ↓W_strK, ↓W_upper, ↓W_join1, ↓W_start, ↓W_slot1, ↓W_slot2, ↓W_arg1, ↓W_arg2, ↓W_sFrz, ↓W_strb, ↓W_sortK, ↓W_sorted1, ↓W_sorted2, ↓W_sorted3, ↓W_loan, ↓W_lent1, ↓W_lent2, ↓W_lent3, ↓W_lent4, ↓W_lent, ↓W_lfR1, ↓W_lfR2, ↓W_clear, ↓W_reverse, ↓W_extend1, ↓W_extend2, ↓W_intfb, ↓W_sidx, ↓W_raiseK, ↓W_raise, ↓W_try, ↓W_isPK, ↓W_fld, ↓W_errK, ↓W_errO, ↓W_cut, ↓W_startL, ↓W_rev3, ↓W_lrev, ↓W_revK1, ↓W_revK2, ↓W_rev2, ↓W_keepL, ↓W_mk, ↓W_mkKw, ↓W_ini0, ↓W_ini1, ↓W_ini2, ↓W_blK, ↓W_lnK, ↓W_lbK, ↓W_inO, ↓W_lenO, ↓W_boolO, ↓W_eqA, ↓W_isO, ↓W_prop, ↓W_prK, ↓W_itO, ↓W_lcX, ↓W_inD1, ↓W_inD2, ↓W_inD3, ↓W_en, ↓W_en1, ↓W_en2, ↓W_bt, ↓W_bc, ↓W_bz, ↓W_chK, ↓W_chain, ↓W_startO, ↓W_slotO1, ↓W_slotO2, ↓W_slotO3, ↓W_tKeep, ↓W_tOrE, ↓W_tAndE, ↓W_tNotE, ↓W_ifE, ↓W_anyI, ↓W_anyK, ↓W_meth, ↓W_mtK, ↓W_meth0, ↓W_mt0K, ↓W_methK, ↓W_mtkK, ↓W_bare0, ↓W_bare1, ↓W_trev, ↓W_trK, ↓W_obj, ↓W_mkK, ↓W_sortedD1, ↓W_sortedD2, ↓W_sortedD3, ↓W_raise2, ↓W_raiseK2, ↓W_setOf1, ↓W_setOf2, ↓W_setOf3, ↓W_sc, endsD, endsTry, wipeE, List.foldr_cons, List.foldr_nil, List.length_cons, List.length_nil, List.map_cons, List.map_nil, List.cons_append, List.nil_append, List.append_nil, List.replicate, List.getElem?_cons_zero, List.getElem?_cons_succ, List.getElem?_nil, List.set_cons_zero, List.set_cons_succ, Nat.reduceAdd, Nat.reduceSub, Nat.zero_add, if_true, if_false, Bool.false_eq_true, Bool.not_true, Bool.not_false, true_and, and_true, List.forall_mem_cons, List.mem_cons, List.not_mem_nil, or_false, forall_eq_or_imp, forall_eq, false_and, and_false, implies_true, false_or, Option.map_some, Option.map_none, ite_self, Bool.and_true, Bool.true_and, Bool.and_false, Bool.false_and, List.forall_mem_nil, decide_true, decide_false, isNonD, signsD, lf, lfL, eq_self])
abbrev sp_name_tuple (c : EK → Addr) : FD := nametupF c
theorem mono_name_tuple {c : EK → Addr} : MonoF (sp_name_tuple c) := mono_nametupF
/-- names: each is checked, then none may come again -/
theorem ok_name_tuple (T : Tx K mg A) : FnOk P w K mg base (L2N.CX P w) 4 A.a_name_tuple A.f_name_tuple ["names"] (spD K 1 (sp_name_tuple (cA A))) := by
  have CK := ok_check_name (P := P) (w := w) (base := base) T
  refine T.F_name_tuple.okN sc_name_tuple (fun vs H Q E h => ?_) (fun cdv A0 outer s H vs Q E hr h => ?_)
  · obtain ⟨st, F, rs, h1, _, _, h2, _⟩ := h
    rw [h2.length, h1]
    rfl
  · obtain ⟨st, F, rs, h1, hs, he, ha, d, ds, rfl, hd, hl, hf, h⟩ := h
    have cy : Cy (cxOf (L2N.CX P w) P w K mg base N_name_tuple "name_tuple" (defScope s_name_tuple) A.a_name_tuple cdv A0 outer s H E) ⟨K, st, F, H⟩ (fun cls d _ H => E cls d H) := ⟨rfl, L2N.takes_of rfl rfl rfl rfl, by have := hr.un; show (A0.deeper (PyProof.Rows.envOfC "name_tuple" (defScope s_name_tuple) s.heap.objs.size A.a_name_tuple cdv)).units + 66 < cLine; omega, passes_of rfl⟩
    refine ⟨_, (dp_one (ds_for cy (di_any cy (de_var 0)) (dg_name 1 sc_name_tuple.nd) (dss_one (ds_expr (de_call cy (ok_check_name T) mono_check_name (hr.mono (by decide)) (by rfl) T.m_check_name T.F_check_name.kp T.b_check_name (da_cons (de_var 1) da_nil)))))
      (pss_cons (ps_set (i := 2) sc_name_tuple.nd rfl (.inl rfl) (pe_callTy0 cr_set0K (by rfl) T.m_set (by decide +kernel)))
      (pss_cons (ps_for cy.po rfl (pi_any (pv 0)) (pg_name (i := 1) sc_name_tuple.nd rfl (.inl rfl)) (pss_cons (ps_if (pt_cmpR or_sinK (pv 1) (pv 2) (by rfl)) (pss_one ((ds_raise cy (EX_RepeatedName T) (hr.mono (by decide)) (by rfl) (de_var 1))).ps) pss_nil) (pss_one (ps_expr (pe_saddK (pv 2) (pa_cons (pv 1) pa_nil))))))
      ((dss_cons (ds_if (dt_gt cy (de_len cy (by rfl) T.m_len (de_var 0)) (de_gint (by rfl) T.m_MOST_NAMES)) (dss_one (ds_raise cy (EX_TooMany T) (hr.mono (by decide)) (by rfl) (de_gint (by rfl) T.m_MOST_NAMES))) dss_nil)
    (dss_one (ds_ret (de_tupf cy (by rfl) T.m_tuple (de_sorted cy (by rfl) T.m_sorted (de_var 0))))))).ps))).ps, ?_⟩
    refine ⟨0, F, startE N_name_tuple.length [.val d], Nat.le_refl _, ok_start (N := N_name_tuple) hs he ha (by show 1 ≤ 3; decide), ?_⟩
    cases d with
    | lst xs =>
      simp only [seqD, Option.some.injEq] at hd
      have hd := hd.symm
      subst hd
      trivial
      refine ⟨nn_of (by omega), forW_inv (fun i env => ∃ z y : Option SV, env = [some (.val (.lst ds)), z, y] ∧ ∀ (j : Nat) d, j < i → ds[j]? = some d → isNameD d = true) (fun i d env N hi ⟨z, y, e, hp⟩ hN => ?_) (fun env ⟨z, y, e, hp⟩ => ?_) _ ⟨_, _, rfl, fun j s hj => absurd hj (by omega)⟩⟩
      · subst e
        trivial
        refine check_of (flat_ask (hf _ (List.mem_of_getElem? hi))) (fun hx => ?_) (fun hx => ?_)
        · trivial
          refine hN _ ⟨_, _, rfl, fun j t hj ht => ?_⟩
          by_cases q : j < i
          · exact hp j t q ht
          · have : j = i := by omega
            subst this
            rw [hi] at ht
            cases ht
            exact hx
        · have e : namesDue ds = some ⟨.badName, [d]⟩ := by
            unfold namesDue badOf
            rw [find_at hi (p := fun d => !isNameD d) (by rw [hx]; rfl) fun j b hj hb => by rw [hp j b hj hb]; rfl]
          rw [e] at h
          exact fun F2 σ2 H2 d2 e2 o2 rx => h F2 H2 d2 o2.grow o2.sto.any rx
      · subst e
        obtain ⟨ss, rfl, hs2⟩ := all_names (ds := ds) fun e m => by
          obtain ⟨j, hj⟩ := List.mem_iff_getElem?.mp m
          exact hp j e (List.getElem?_eq_some_iff.mp hj).1 hj
        rw [namesDue_strs hs2] at h
        rw [List.length_map] at hl
        intro F1 σ1 H1 e1 o1
        refine ⟨rfl, fun p hp1 => ?_⟩
        have hps : p ≠ st := fun z => o1.sto.some (by rw [← z]; exact hp1)
        have h0p : H p = none := (o1.newOf p hp1).resolve_right hps
        have f1p : F1 p = none := Evl.fresh_back o1.fh hp1
        have len1 : σ1.length = 3 := o1.len
        obtain ⟨v, hv, rv⟩ := o1.val 0 _ rfl
        simp only [Rep] at rv
        obtain ⟨a, vs, rfl, ra, rvs⟩ := rv
        have o2 : Ok ⟨K, st, F, H⟩ 0 F1 [some (.val (.lst (ss.map D.str))), none, none] (σ1.set 2 (some (.ref p))) (upd H1 p (SetK P w p (fun _ => false) 0)) := (o1.new hp1).weak (by rw [List.length_set]; exact len1) fun i s q => by
          match i, q with
          | 0, q => exact ⟨by simpa using q, by rw [List.getElem?_set_ne (by decide)]⟩
          | 1, q => simp at q
          | 2, q => simp at q
          | n + 3, q => simp at q
        have wk : Wk ⟨K, st, F, H⟩ (Itl K a) (ss.map D.str) F1 := wk_list ra rvs
        refine ⟨_, (by rw [List.getElem?_set_ne (by decide)]; exact hv), .inl ⟨a, rfl, ⟨vs, .inl (.inl (by rw [upd_ne (fun z => by have := o1.fh _ _ ra; rw [z, hp1] at this; cases this)]; exact o1.fh _ _ ra))⟩, ?_⟩⟩
        refine ⟨fun i m σ' H' => m = ss.length - i ∧ i ≤ ss.length ∧ ∃ F2 S n, Evl.Ex F1 F2 ∧ Ok ⟨K, st, F, H⟩ 0 F2 [some (.val (.lst (ss.map D.str))), none, none] σ' H' ∧ σ'[2]? = some (some (.ref p)) ∧ H' p = some (SetK P w p S n) ∧ F2 p = none ∧ n ≤ i ∧ (∀ s : Str, S (Sum.inr s) = decide (s ∈ ss.take i)) ∧ (∀ (j : Nat) s, j < i → ss[j]? = some s → s ∉ ss.take j), ⟨ss.length, rfl, Nat.zero_le _, F1, _, 0, Evl.Ex.refl F1, o2, by rw [List.getElem?_set_self (by omega)], upd_same, f1p, Nat.le_refl _, fun s => by simp, fun j s hj => absurd hj (by omega)⟩, ?_⟩
        rintro i m σ' H' ⟨rfl, hi', F2, S, n, e2, o3, hs3, hS, f2p, hn, hm, hr2⟩
        by_cases hlt : i < ss.length
        · have hlt' : i < (ss.map D.str).length := by rw [List.length_map]; exact hlt
          refine .inr ⟨wk.go e2 o3.fh hlt', fun σ2 H2 => (i + 1) ≤ ss.length ∧ ∃ F2 S n, Evl.Ex F1 F2 ∧ Ok ⟨K, st, F, H⟩ 0 F2 [some (.val (.lst (ss.map D.str))), none, none] σ2 H2 ∧ σ2[2]? = some (some (.ref p)) ∧ H2 p = some (SetK P w p S n) ∧ F2 p = none ∧ n ≤ i + 1 ∧ (∀ s : Str, S (Sum.inr s) = decide (s ∈ ss.take (i + 1))) ∧ (∀ (j : Nat) s, j < i + 1 → ss[j]? = some s → s ∉ ss.take j), fun σ2 H2 q => ⟨ss.length - (i + 1), by omega, rfl, q⟩, fun x H3 hy => ?_⟩
          obtain ⟨d', F3, hd', w3, o4, rd⟩ := wk.yld hlt' e2 o3 hy
          rw [List.getElem?_map] at hd'
          obtain ⟨s, hs4, rfl⟩ := Option.map_eq_some_iff.mp hd'
          have ev : x = .str s := by simpa only [Rep] using rd
          subst ev
          have len3 : σ'.length = 3 := o3.len
          have H3p : H3 p = some (SetK P w p S n) := w3.hh p _ hps hS
          have f3p : F3 p = none := w3.nf p f2p (by rw [hS]; exact fun z => nomatch z)
          have g1 : (σ'.set 1 (some (V.str s)))[1]? = some (some (V.str s)) := List.getElem?_set_self (by omega)
          have g2 : (σ'.set 1 (some (V.str s)))[2]? = some (some (V.ref p)) := by rw [List.getElem?_set_ne (by decide)]; exact hs3
          have o5 : Ok ⟨K, st, F, H⟩ 0 F3 [some (.val (.lst (ss.map D.str))), some (.val (.str s)), none] (σ'.set 1 (some (.str s))) H3 := o4.set 1 (d := .str s) rd
          refine ⟨_, g1, _, g2, Sum.inr s, p, S, n, rfl, rfl, H3p, _, rfl, ite2 (fun c => ?_) (fun c => ?_)⟩
          · have c : s ∈ ss.take i := by simpa [hm s] using c
            refine ⟨0, F3, _, Nat.le_refl _, o5, ?_⟩
            trivial
            rw [repOf_at ss [] i s hs4 (fun j t hj ht => by simpa using hr2 j t hj ht) (by simpa using c)] at h
            exact fun F2 σ2 H2 d2 e2 o2 rx => h F2 H2 d2 o2.grow o2.sto.any rx
          · have c : s ∉ ss.take i := by simpa [hm s] using c
            refine ⟨_, g2, ⟨p, S, n, rfl, H3p⟩, _, g1, p, Sum.inr s, S, n, rfl, rfl, H3p, Nat.lt_of_le_of_lt (show n + 1 ≤ 1000 by omega) (by decide), hlt, F3, _, _, e2.trans w3.ff, (o5.updOwn f3p hps h0p fun i xs q => ?_).weak (by rw [List.length_set]; exact len3) (fun i s q => ?_), g2, upd_same, f3p, by split <;> omega, fun t => ?_, fun j t hj ht => ?_⟩
            · match i, q with
              | 0, q => simp at q
              | 1, q => simp at q
              | 2, q => simp at q
              | n + 3, q => simp at q
            · match i, q with
              | 0, q => exact ⟨by simpa using q, rfl⟩
              | 1, q => simp at q
              | 2, q => simp at q
              | n + 3, q => simp at q
            · show (S (Sum.inr t) || decide (Sum.inr t = Sum.inr s)) = _
              rw [hm t, List.take_add_one, hs4, ← Bool.decide_or]
              exact decide_eq_decide.mpr (by simp)
            · by_cases q : j < i
              · exact hr2 j t q ht
              · have : j = i := by omega
                subst this
                rw [hs4] at ht
                cases ht
                exact c
        · have ei : i = ss.length := by omega
          refine .inl ⟨wk.stop e2 o3.fh (by rw [List.length_map]; omega), 0, F2, _, Nat.le_refl _, o3, ?_⟩
          have hr : repOf [] ss = none := repOf_no ss [] fun j t ht => by
            have hj := (List.getElem?_eq_some_iff.mp ht).1
            simpa using hr2 j t (by omega) ht
          rw [hr] at h
          have h' : toldK (cA A) (if 12 < ss.length then some ⟨.tooMany, [.int 12]⟩ else none) _ _ := h
          trivial
          rw [List.length_map]
          refine iteB (fun c => ?_) (fun c => ?_)
          · rw [if_pos (by have := of_decide_eq_true c; omega)] at h'
            exact fun F2 σ2 H2 d2 e2 o2 rx => h' F2 H2 d2 o2.grow o2.sto.any rx
          · rw [if_neg (by have := of_decide_eq_false c; omega)] at h'
            simp only [toldK, strsD_map] at h'
            rw [strsOf_map]
            trivial
            refine ⟨lim_of (by omega), fun F4 H4 v4 w4 s4 r4 => h' F4 H4 v4 w4 s4.any r4⟩
    | tup xs =>
      simp only [seqD, Option.some.injEq] at hd
      have hd := hd.symm
      subst hd
      trivial
      refine ⟨nn_of (by omega), forW_inv (fun i env => ∃ z y : Option SV, env = [some (.val (.tup ds)), z, y] ∧ ∀ (j : Nat) d, j < i → ds[j]? = some d → isNameD d = true) (fun i d env N hi ⟨z, y, e, hp⟩ hN => ?_) (fun env ⟨z, y, e, hp⟩ => ?_) _ ⟨_, _, rfl, fun j s hj => absurd hj (by omega)⟩⟩
      · subst e
        trivial
        refine check_of (flat_ask (hf _ (List.mem_of_getElem? hi))) (fun hx => ?_) (fun hx => ?_)
        · trivial
          refine hN _ ⟨_, _, rfl, fun j t hj ht => ?_⟩
          by_cases q : j < i
          · exact hp j t q ht
          · have : j = i := by omega
            subst this
            rw [hi] at ht
            cases ht
            exact hx
        · have e : namesDue ds = some ⟨.badName, [d]⟩ := by
            unfold namesDue badOf
            rw [find_at hi (p := fun d => !isNameD d) (by rw [hx]; rfl) fun j b hj hb => by rw [hp j b hj hb]; rfl]
          rw [e] at h
          exact fun F2 σ2 H2 d2 e2 o2 rx => h F2 H2 d2 o2.grow o2.sto.any rx
      · subst e
        obtain ⟨ss, rfl, hs2⟩ := all_names (ds := ds) fun e m => by
          obtain ⟨j, hj⟩ := List.mem_iff_getElem?.mp m
          exact hp j e (List.getElem?_eq_some_iff.mp hj).1 hj
        rw [namesDue_strs hs2] at h
        rw [List.length_map] at hl
        intro F1 σ1 H1 e1 o1
        refine ⟨rfl, fun p hp1 => ?_⟩
        have hps : p ≠ st := fun z => o1.sto.some (by rw [← z]; exact hp1)
        have h0p : H p = none := (o1.newOf p hp1).resolve_right hps
        have f1p : F1 p = none := Evl.fresh_back o1.fh hp1
        have len1 : σ1.length = 3 := o1.len
        obtain ⟨v, hv, rv⟩ := o1.val 0 _ rfl
        simp only [Rep] at rv
        obtain ⟨a, vs, rfl, ra, rvs⟩ := rv
        have o2 : Ok ⟨K, st, F, H⟩ 0 F1 [some (.val (.tup (ss.map D.str))), none, none] (σ1.set 2 (some (.ref p))) (upd H1 p (SetK P w p (fun _ => false) 0)) := (o1.new hp1).weak (by rw [List.length_set]; exact len1) fun i s q => by
          match i, q with
          | 0, q => exact ⟨by simpa using q, by rw [List.getElem?_set_ne (by decide)]⟩
          | 1, q => simp at q
          | 2, q => simp at q
          | n + 3, q => simp at q
        have wk : Wk ⟨K, st, F, H⟩ (Itt K a) (ss.map D.str) F1 := wk_tup ra rvs
        refine ⟨_, (by rw [List.getElem?_set_ne (by decide)]; exact hv), .inr (.inl ⟨a, rfl, ⟨vs, Evl.ex_t o2.fh ra⟩, ?_⟩)⟩
        refine ⟨fun i m σ' H' => m = ss.length - i ∧ i ≤ ss.length ∧ ∃ F2 S n, Evl.Ex F1 F2 ∧ Ok ⟨K, st, F, H⟩ 0 F2 [some (.val (.tup (ss.map D.str))), none, none] σ' H' ∧ σ'[2]? = some (some (.ref p)) ∧ H' p = some (SetK P w p S n) ∧ F2 p = none ∧ n ≤ i ∧ (∀ s : Str, S (Sum.inr s) = decide (s ∈ ss.take i)) ∧ (∀ (j : Nat) s, j < i → ss[j]? = some s → s ∉ ss.take j), ⟨ss.length, rfl, Nat.zero_le _, F1, _, 0, Evl.Ex.refl F1, o2, by rw [List.getElem?_set_self (by omega)], upd_same, f1p, Nat.le_refl _, fun s => by simp, fun j s hj => absurd hj (by omega)⟩, ?_⟩
        rintro i m σ' H' ⟨rfl, hi', F2, S, n, e2, o3, hs3, hS, f2p, hn, hm, hr2⟩
        by_cases hlt : i < ss.length
        · have hlt' : i < (ss.map D.str).length := by rw [List.length_map]; exact hlt
          refine .inr ⟨wk.go e2 o3.fh hlt', fun σ2 H2 => (i + 1) ≤ ss.length ∧ ∃ F2 S n, Evl.Ex F1 F2 ∧ Ok ⟨K, st, F, H⟩ 0 F2 [some (.val (.tup (ss.map D.str))), none, none] σ2 H2 ∧ σ2[2]? = some (some (.ref p)) ∧ H2 p = some (SetK P w p S n) ∧ F2 p = none ∧ n ≤ i + 1 ∧ (∀ s : Str, S (Sum.inr s) = decide (s ∈ ss.take (i + 1))) ∧ (∀ (j : Nat) s, j < i + 1 → ss[j]? = some s → s ∉ ss.take j), fun σ2 H2 q => ⟨ss.length - (i + 1), by omega, rfl, q⟩, fun x H3 hy => ?_⟩
          obtain ⟨d', F3, hd', w3, o4, rd⟩ := wk.yld hlt' e2 o3 hy
          rw [List.getElem?_map] at hd'
          obtain ⟨s, hs4, rfl⟩ := Option.map_eq_some_iff.mp hd'
          have ev : x = .str s := by simpa only [Rep] using rd
          subst ev
          have len3 : σ'.length = 3 := o3.len
          have H3p : H3 p = some (SetK P w p S n) := w3.hh p _ hps hS
          have f3p : F3 p = none := w3.nf p f2p (by rw [hS]; exact fun z => nomatch z)
          have g1 : (σ'.set 1 (some (V.str s)))[1]? = some (some (V.str s)) := List.getElem?_set_self (by omega)
          have g2 : (σ'.set 1 (some (V.str s)))[2]? = some (some (V.ref p)) := by rw [List.getElem?_set_ne (by decide)]; exact hs3
          have o5 : Ok ⟨K, st, F, H⟩ 0 F3 [some (.val (.tup (ss.map D.str))), some (.val (.str s)), none] (σ'.set 1 (some (.str s))) H3 := o4.set 1 (d := .str s) rd
          refine ⟨_, g1, _, g2, Sum.inr s, p, S, n, rfl, rfl, H3p, _, rfl, ite2 (fun c => ?_) (fun c => ?_)⟩
          · have c : s ∈ ss.take i := by simpa [hm s] using c
            refine ⟨0, F3, _, Nat.le_refl _, o5, ?_⟩
            trivial
            rw [repOf_at ss [] i s hs4 (fun j t hj ht => by simpa using hr2 j t hj ht) (by simpa using c)] at h
            exact fun F2 σ2 H2 d2 e2 o2 rx => h F2 H2 d2 o2.grow o2.sto.any rx
          · have c : s ∉ ss.take i := by simpa [hm s] using c
            refine ⟨_, g2, ⟨p, S, n, rfl, H3p⟩, _, g1, p, Sum.inr s, S, n, rfl, rfl, H3p, Nat.lt_of_le_of_lt (show n + 1 ≤ 1000 by omega) (by decide), hlt, F3, _, _, e2.trans w3.ff, (o5.updOwn f3p hps h0p fun i xs q => ?_).weak (by rw [List.length_set]; exact len3) (fun i s q => ?_), g2, upd_same, f3p, by split <;> omega, fun t => ?_, fun j t hj ht => ?_⟩
            · match i, q with
              | 0, q => simp at q
              | 1, q => simp at q
              | 2, q => simp at q
              | n + 3, q => simp at q
            · match i, q with
              | 0, q => exact ⟨by simpa using q, rfl⟩
              | 1, q => simp at q
              | 2, q => simp at q
              | n + 3, q => simp at q
            · show (S (Sum.inr t) || decide (Sum.inr t = Sum.inr s)) = _
              rw [hm t, List.take_add_one, hs4, ← Bool.decide_or]
              exact decide_eq_decide.mpr (by simp)
            · by_cases q : j < i
              · exact hr2 j t q ht
              · have : j = i := by omega
                subst this
                rw [hs4] at ht
                cases ht
                exact c
        · have ei : i = ss.length := by omega
          refine .inl ⟨wk.stop e2 o3.fh (by rw [List.length_map]; omega), 0, F2, _, Nat.le_refl _, o3, ?_⟩
          have hr : repOf [] ss = none := repOf_no ss [] fun j t ht => by
            have hj := (List.getElem?_eq_some_iff.mp ht).1
            simpa using hr2 j t (by omega) ht
          rw [hr] at h
          have h' : toldK (cA A) (if 12 < ss.length then some ⟨.tooMany, [.int 12]⟩ else none) _ _ := h
          trivial
          rw [List.length_map]
          refine iteB (fun c => ?_) (fun c => ?_)
          · rw [if_pos (by have := of_decide_eq_true c; omega)] at h'
            exact fun F2 σ2 H2 d2 e2 o2 rx => h' F2 H2 d2 o2.grow o2.sto.any rx
          · rw [if_neg (by have := of_decide_eq_false c; omega)] at h'
            simp only [toldK, strsD_map] at h'
            rw [strsOf_map]
            trivial
            refine ⟨lim_of (by omega), fun F4 H4 v4 w4 s4 r4 => h' F4 H4 v4 w4 s4.any r4⟩
    | _ => simp [seqD] at hd
end
end K38
namespace K38
open PySem PySem.Spec L2 DL
section
variable {P : Program} {w : World} {K : PySem.W.Frag} {mg : Str → Option Value} {base : Heap} {A : TxA}
local macro_rules | `(tactic| trivial) => `(tactic| simp -dsimp only [↓W_lst, ↓W_lst1, ↓W_isS, ↓W_bt, ↓W_bc, ↓W_bz, ↓W_asgG, ↓W_valK, ↓W_rg2, ↓W_rg2k, ↓W_lc2, ↓W_ltD, ↓List.zip_cons_cons, ↓List.zip_nil_left, ↓W_lent, ↓W_lent1, ↓W_lent2, ↓W_lent3, ↓W_lent4, ↓W_mulL, ↓W_var, ↓W_var1, ↓W_var2, ↓W_var3, ↓W_c, ↓W_frz, ↓W_frz1, ↓W_frz2, ↓W_frz3, ↓W_frz4, ↓W_op, ↓W_call, ↓W_fn, ↓W_fn0, ↓W_fnK, ↓W_nil, ↓W_cons, ↓W_add1, ↓W_add2, ↓W_add3, ↓W_add4, ↓W_add5, ↓W_add6, ↓W_add7, ↓W_int, ↓W_int0, ↓W_mul1, ↓W_mul2, ↓W_eq1, ↓W_eq2, ↓W_eq3, ↓W_eq4, ↓W_ne1, ↓W_ne2, ↓W_ne3, ↓W_in1, ↓W_in2, ↓W_in3, ↓W_in4, ↓W_in5, ↓W_is1, ↓W_is2, ↓W_at, ↓W_atS, ↓W_ix1, ↓W_ix2, ↓W_ix3, ↓W_ix4, ↓W_sl, ↓W_on, ↓W_os, ↓W_part, ↓W_sl1, ↓W_sl2, ↓W_sl3, ↓W_sl4, ↓W_len1, ↓W_len2, ↓W_len3, ↓W_len4, ↓W_abs, ↓W_intf, ↓W_strf, ↓W_list1, ↓W_list2, ↓W_list3, ↓W_tup1, ↓W_tup2, ↓W_tup3, ↓W_max, ↓W_min, ↓W_allK, ↓W_all1, ↓W_isi1, ↓W_isi2, ↓W_k_ns, ↓W_k_bs, ↓W_k_is, ↓W_k_ss, ↓W_k_ts, ↓W_k_ls, ↓W_k_nb, ↓W_k_bb, ↓W_k_ib, ↓W_k_sb, ↓W_k_tb, ↓W_k_lb, ↓W_k_ni, ↓W_k_bi, ↓W_k_ii, ↓W_k_si, ↓W_k_ti, ↓W_k_li, ↓W_k_nt, ↓W_k_bt, ↓W_k_it, ↓W_k_st, ↓W_k_tt, ↓W_k_lt, ↓W_k_nl, ↓W_k_bl, ↓W_k_il, ↓W_k_sl, ↓W_k_tl, ↓W_k_ll, ↓W_valsK, ↓W_etup, ↓W_elst, ↓W_vals0, ↓W_vals1, ↓W_bool, ↓W_bool1, ↓W_tand, ↓W_tor, ↓W_tnot, ↓W_tru, ↓W_tru1, ↓W_tru2, ↓W_tru3, ↓W_tru4, ↓W_tru5, ↓W_tru6, ↓W_tru7, ↓W_bo, ↓W_eand, ↓W_eor, ↓W_enot, ↓W_ink, ↓W_eneg, ↓W_snil, ↓W_seq, ↓W_asg, ↓W_asg1, ↓W_asg2, ↓W_asg3, ↓W_ret, ↓W_hand1, ↓W_hand2, ↓W_hand3, ↓W_hand4, ↓W_expr, ↓W_if, ↓W_for, ↓W_any, ↓W_it1, ↓W_it2, ↓W_it3, ↓W_rg1, ↓W_lc, ↓W_bn, ↓W_yes, ↓W_ownK, ↓W_mut, ↓W_app, ↓W_ins, ↓W_setK, ↓W_stK, ↓W_setIx, ↓W_strK, ↓W_upper, ↓W_join1, ↓W_start, ↓W_slot1, ↓W_slot2, ↓W_arg1, ↓W_arg2, ↓W_sFrz, ↓W_strb, ↓W_sortK, ↓W_sorted1, ↓W_sorted2, ↓W_sorted3, ↓W_loan, ↓W_lent1, ↓W_lent2, ↓W_lent3, ↓W_lent4, ↓W_lent, ↓W_lfR1, ↓W_lfR2, ↓W_clear, ↓W_reverse, ↓W_extend1, ↓W_extend2, ↓W_intfb, ↓W_sidx, ↓W_raiseK, ↓W_raise, ↓W_try, ↓W_isPK, ↓W_fld, ↓W_errK, ↓W_errO, ↓W_cut, ↓W_startL, ↓W_rev3, ↓W_lrev, ↓W_revK1, ↓W_revK2, ↓W_rev2, ↓W_keepL, ↓W_mk, ↓W_mkKw, ↓W_ini0, ↓W_ini1, ↓W_ini2, ↓W_blK, ↓W_lnK, ↓W_lbK, ↓W_inO, ↓W_lenO, ↓W_boolO, ↓W_eqA, ↓W_isO, ↓W_prop, ↓W_prK, ↓W_itO, ↓W_lcX, ↓W_inD1, ↓W_inD2, ↓W_inD3, ↓W_en, ↓W_en1, ↓W_en2, ↓W_bt, ↓W_bc, ↓W_bz, ↓W_chK, ↓W_chain, ↓W_startO, ↓W_slotO1, ↓W_slotO2, ↓W_slotO3, ↓W_tKeep, ↓W_tOrE, ↓W_tAndE, ↓W_tNotE, ↓W_ifE, ↓W_anyI, ↓W_anyK, ↓W_meth, ↓W_mtK, ↓W_meth0, ↓W_mt0K, ↓W_methK, ↓W_mtkK, ↓W_bare0, ↓W_bare1, ↓W_trev, ↓W_trK, ↓W_obj, ↓W_mkK, ↓W_sortedD1, ↓W_sortedD2, ↓W_sortedD3, ↓W_raise2, ↓W_raiseK2, ↓W_setOf1, ↓W_setOf2, ↓W_setOf3, ↓W_sc, endsD, endsTry, wipeE, List.foldr_cons, List.foldr_nil, List.length_cons, List.length_nil, List.map_cons, List.map_nil, List.cons_append, List.nil_append, List.append_nil, List.replicate, List.getElem?_cons_zero, List.getElem?_cons_succ, List.getElem?_nil, List.set_cons_zero, List.set_cons_succ, Nat.reduceAdd, Nat.reduceSub, Nat.zero_add, if_true, if_false, Bool.false_eq_true, Bool.not_true, Bool.not_false, true_and, and_true, List.forall_mem_cons, List.mem_cons, List.not_mem_nil, or_false, forall_eq_or_imp, forall_eq, false_and, and_false, implies_true, false_or, Option.map_some, Option.map_none, ite_self, Bool.and_true, Bool.true_and, Bool.and_false, Bool.false_and, List.forall_mem_nil, decide_true, decide_false, isNonD, signsD, lf, lfL, eq_self])
def fewDF (c : EK → Addr) : FD := fun rs Q E => ∃ (ds : List D) (m : Int), rs = [.val (.tup ds), .val (.int m)] ∧ toldK c (fewDue ds.length m) (Q (.val .non)) E
theorem mono_fewDF {c : EK → Addr} : MonoF (fewDF c) := fun rs Q Q' E E' hq he ⟨ds, m, h1, h2⟩ => ⟨ds, m, h1, toldK_mono (hq _) he h2⟩
theorem fewD_of {c : EK → Addr} {Q : RV → Prop} {E : Exc → Prop} {ds : List D} {m : Int} (h : toldK c (fewDue ds.length m) (Q (.val .non)) E) : app (fewDF c) [.val (.tup ds), .val (.int m)] Q E := ⟨ds, m, rfl, h⟩
abbrev sp_require_few (c : EK → Addr) : FD := fewDF c
theorem mono_require_few {c : EK → Addr} : MonoF (sp_require_few c) := mono_fewDF
theorem ok_require_few (T : Tx K mg A) : FnOk P w K mg base (L2N.CX P w) 3 A.a_require_few A.f_require_few ["names", "most"] (spD K 2 (sp_require_few (cA A))) := by
  refine fn_okD T.F_require_few sc_require_few (by decide) (fun cdv A0 outer s H E g hK hr cy => ?_)
  refine ⟨_, _, (dss_one (ds_if (dt_gt cy (de_len cy (by rfl) T.m_len (de_var 0)) (de_var 1)) (dss_one (ds_raise cy (EX_TooMany T) (hr.mono (by decide)) (by rfl) (de_var 1))) dss_nil)), fun rs Q Ex hlen h => ?_⟩
  obtain ⟨ds, m, rfl, h⟩ := h
  unfold fewDue at h
  trivial
  refine iteB (fun c => ?_) (fun c => ?_)
  · rw [if_pos (by have := of_decide_eq_true c; omega)] at h
    exact h
  · rw [if_neg (by have := of_decide_eq_false c; omega)] at h
    exact h
def placF : FD := fun rs Q _ => ∃ (lots : List (List Str)) (x : Str) (m : Nat), rs = [.val (tupsD lots), .val (.str x), .val (.int (m : Int))] ∧ lots.length ≤ 12 ∧ (∀ l ∈ lots, l.length ≤ 12) ∧ Q (.own ((placL lots x m).map tupsD))
theorem mono_placF : MonoF placF := fun rs Q Q' E E' hq he ⟨lots, x, m, h1, h2, h3, h4⟩ => ⟨lots, x, m, h1, h2, h3, hq _ h4⟩
theorem plac_of {Q : RV → Prop} {E : Exc → Prop} {lots : List (List Str)} {x : Str} {m : Nat} (h2 : lots.length ≤ 12) (h3 : ∀ l ∈ lots, l.length ≤ 12) (h : Q (.own ((placL lots x m).map tupsD))) : app placF [.val (tupsD lots), .val (.str x), .val (.int (m : Int))] Q E := ⟨lots, x, m, rfl, h2, h3, h⟩
abbrev sp_placings : FD := placF
theorem mono_placings : MonoF sp_placings := mono_placF
theorem ok_placings (T : Tx K mg A) : FnOk P w K mg base (L2N.CX P w) 1 A.a_placings A.f_placings ["lots", "name", "many"] (spD K 3 sp_placings) := by
  refine fn_okD T.F_placings sc_placings (by decide) (fun cdv A0 outer s H E g hK hr cy => ?_)
  refine ⟨_, _, (dss_cons (ds_asgLc 3 cy (own := [("at", 4), ("lot", 5)]) sc_placings.nd (di_enumerate cy (by rfl) T.m_enumerate (da_cons (de_var 0) da_nil)) (blkOk_by (own := [("at", 4), ("lot", 5)]) (N := N_placings) (sc := defScope s_placings) (by decide +kernel)) (fun _ _ _ _ _ cy => (dg_tup (n := 2) cy (dgs_cons (dg_name 4 sc_placings.nd) (dgs_cons (dg_name 5 sc_placings.nd) dgs_nil)))) (fun _ _ _ _ _ cy => dts_nil) (fun _ _ _ _ _ cy => (de_add cy (de_add cy (de_slice cy (de_var 0) do_none (do_some (de_var 4))) (de_tup (da_cons (de_add cy (de_var 5) (de_tup (da_cons (de_var 1) da_nil))) da_nil))) (de_slice cy (de_var 0) (do_some (de_add cy (de_var 4) de_int)) do_none))))
    (dss_cons (ds_if (dt_eq cy (de_len cy (by rfl) T.m_len (de_var 0)) (de_var 2)) (dss_one (ds_ret (de_var 3))) dss_nil)
    (dss_one (ds_ret (de_add cy (de_var 3) (de_lst (da_cons (de_add cy (de_var 0) (de_tup (da_cons (de_tup (da_cons (de_var 1) da_nil)) da_nil))) da_nil))))))), fun rs Q Ex hlen h => ?_⟩
  obtain ⟨lots, x, m, rfl, l1, l2, h⟩ := h
  trivial
  refine ⟨nn_of (by rw [enumD_len, List.length_map]; omega), lcW_inv (fun j acc => acc = ((List.range j).map (insAt lots x)).map tupsD) (fun j d acc Y N hj hI hY _ => ?_) (fun acc hI => ?_) _ rfl⟩
  · rw [enumD_at, List.getElem?_map] at hj
    obtain ⟨z, h1, rfl⟩ := Option.map_eq_some_iff.mp hj
    obtain ⟨a, ha, rfl⟩ := Option.map_eq_some_iff.mp h1
    have lt : j < lots.length := (List.getElem?_eq_some_iff.mp ha).1
    have la := l2 a (List.mem_of_getElem? ha)
    trivial
    rw [show ((j : Nat) : Int) + 1 = ((j + 1 : Nat) : Int) by omega, cutD_take (by omega), cutD_drop (by omega), Int.toNat_natCast, Int.toNat_natCast]
    refine ⟨lim_of (by decide), lim_of (by rw [List.length_map]; omega), lim_of (by decide), lim_of (by simp only [List.length_take, List.length_map]; omega), lim_of (by simp only [List.length_take, List.length_map, List.length_drop, List.length_append, List.length_cons, List.length_nil]; omega), _, rfl, hY _ ?_⟩
    rw [hI, List.range_succ, List.map_append, List.map_append]
    refine congrArg (List.map tupsD (List.map (insAt lots x) (List.range j)) ++ ·) ?_
    show [_] = [tupsD (insAt lots x j)]
    unfold insAt
    rw [ha, List.set_eq_take_append_cons_drop, if_pos lt]
    show [D.tup _] = [D.tup _]
    rw [List.map_append, List.map_cons, List.map_take, List.map_drop, List.append_assoc]
    show _ = [D.tup (_ ++ D.tup ((a ++ [x]).map D.str) :: _)]
    rw [List.map_append]
    rfl
  · subst hI
    rw [enumD_len, List.length_map]
    trivial
    rw [List.length_map]
    refine iteB (fun c => ?_) (fun c => ?_)
    · have c := of_decide_eq_true c
      unfold placL at h
      rw [if_pos (by omega), List.append_nil] at h
      exact h
    · have c := of_decide_eq_false c
      unfold placL at h
      rw [if_neg (by omega), List.map_append] at h
      refine ⟨lim_of (by decide), lim_of (by decide), lim_of (by omega), lim_of (by decide), lim_of (by rw [List.length_map, List.length_map, List.length_range]; omega), ?_⟩
      have e : D.tup (List.map (fun l => D.tup (List.map D.str l)) lots ++ [D.tup [D.str x]]) = tupsD (lots ++ [[x]]) := by
        show _ = D.tup (List.map (fun l => D.tup (List.map D.str l)) (lots ++ [[x]]))
        rw [List.map_append]
        rfl
      rw [e]
      exact h
def divisF : FD := fun rs Q _ => ∃ (n : List Str) (m : Nat), rs = [.val (tupS n), .val (.int (m : Int))] ∧ SetOk n ∧ n.length ≤ 7 ∧ m ≤ 4 ∧ Q (.val (tupssD (divL n m)))
theorem mono_divisF : MonoF divisF := fun rs Q Q' E E' hq he ⟨n, m, h1, h2, h3, h4, h5⟩ => ⟨n, m, h1, h2, h3, h4, hq _ h5⟩
theorem divis_of {Q : RV → Prop} {E : Exc → Prop} {n : List Str} {m : Nat} (h2 : SetOk n) (h3 : n.length ≤ 7) (h4 : m ≤ 4) (h : Q (.val (tupssD (divL n m)))) : app divisF [.val (tupS n), .val (.int (m : Int))] Q E := ⟨n, m, rfl, h2, h3, h4, h⟩
abbrev sp_divisions : FD := divisF
theorem mono_divisions : MonoF sp_divisions := mono_divisF
theorem ok_divisions (T : Tx K mg A) : FnOk P w K mg base (L2N.CX P w) 2 A.a_divisions A.f_divisions ["names", "many"] (spD K 2 sp_divisions) := by
  refine fn_okD T.F_divisions sc_divisions (by decide) (fun cdv A0 outer s H E g hK hr cy => ?_)
  refine ⟨_, _, (dss_cons (ds_asg 2 (DE.frz (de_lst (da_cons (de_tup da_nil) da_nil))) sc_divisions.nd)
    (dss_cons (ds_for cy (di_any cy (de_var 0)) (dg_name 3 sc_divisions.nd) (dss_one (ds_asgLc2 2 (own := [("row", 4), ("lots", 5)]) cy [5] sc_divisions.nd (di_any cy (de_var 2)) (blkOk_by (own := [("row", 4), ("lots", 5)]) (N := N_divisions) (sc := defScope s_divisions) (by decide +kernel)) (fun _ _ _ _ _ cy => (dg_name 4 sc_divisions.nd)) (fun _ _ _ _ _ cy => dts_nil) (fun _ _ _ _ _ cy => (di_any cy (de_call cy (ok_placings T) mono_placings (hr.mono (by decide)) (by rfl) T.m_placings T.F_placings.kp T.b_placings (da_cons (de_var 4) (da_cons (de_var 3) (da_cons (de_var 1) da_nil)))))) (fun _ _ _ _ _ cy => (dg_name 5 sc_divisions.nd)) (fun _ _ _ _ _ cy => dts_nil) (fun _ _ _ _ _ cy => (de_var 5)) (ol_name 4))))
    (dss_one (ds_ret (de_tupf cy (by rfl) T.m_tuple (de_sortedD cy (by rfl) T.m_sorted (de_lc cy (own := [("lots", 5)]) sc_divisions.nd (di_any cy (de_var 2)) (blkOk_by (own := [("lots", 5)]) (N := N_divisions) (sc := defScope s_divisions) (by decide +kernel)) (fun _ _ _ _ _ cy => (dg_name 5 sc_divisions.nd)) (fun _ _ _ _ _ cy => (dts_one (dt_eq cy (de_len cy (by rfl) T.m_len (de_var 5)) (de_var 1)))) (fun _ _ _ _ _ cy => (de_var 5))))))))), fun rs Q Ex hlen h => ?_⟩
  obtain ⟨n, m, rfl, hn, ln, lm, h⟩ := h
  trivial
  refine ⟨lim_of (by decide), lim_of (by decide), nn_of (by rw [List.length_map]; omega), forW_inv (fun j env => ∃ z3 z4 z5 : Option SV, env = [some (.val (tupS n)), some (.val (.int (m : Nat))), some (.val (.lst ((divRows m (n.take j) [[]]).map tupsD))), z3, z4, z5]) (fun j d env N hj ⟨z3, z4, z5, e⟩ hN => ?_) (fun env ⟨z3, z4, z5, e⟩ => ?_) _ ⟨none, none, none, rfl⟩⟩
  · subst e
    rw [List.getElem?_map] at hj
    obtain ⟨x, hx, rfl⟩ := Option.map_eq_some_iff.mp hj
    have lt : j < n.length := (List.getElem?_eq_some_iff.mp hx).1
    have ro := rows_take hn m j
    have rl := rows_few ro lm (by rw [List.length_take]; omega)
    have ro1 := rows_take hn m (j + 1)
    have rl1 := rows_few ro1 lm (by rw [List.length_take]; omega)
    have et : n.take (j + 1) = n.take j ++ [x] := by rw [List.take_succ, hx]; rfl
    rw [et, divRows_snoc] at rl1
    trivial
    generalize hR : divRows m (n.take j) [[]] = R at ro rl rl1 ⊢
    refine ⟨nn_of (by rw [List.length_map]; omega), lcG2_inv (fun i acc => acc = ((R.take i).flatMap fun r => placL r x m).map tupsD) (fun i d acc Y hi hI hY => ?_) (fun acc hI => ?_) _ (by rw [List.take_zero]; rfl)⟩
    · rw [List.getElem?_map] at hi
      obtain ⟨r, hr, rfl⟩ := Option.map_eq_some_iff.mp hi
      have mr := List.mem_of_getElem? hr
      have rk := ro.ok r mr
      have la : acc.length ≤ 715 := by
        rw [hI, List.length_map]
        have : ((R.take i).flatMap fun r => placL r x m).length ≤ (R.flatMap fun r => placL r x m).length := (flatMap_take _ _ _).length_le
        omega
      have lp := placL_bound (x := x) rk.2
      trivial
      refine plac_of (by omega) (fun l ml => Nat.le_trans (rk.1.fit l ml) (by rw [List.length_take]; omega)) ?_
      trivial
      refine ⟨nn_of (by rw [List.length_map]; omega), by rw [List.length_map]; omega, lcW_map (fun _ => true) id _ _ (fun d hd Y N hy _ => ?_) ?_⟩
      · trivial
        exact ⟨_, rfl, hy rfl⟩
      · refine hY _ ?_
        rw [hI, List.take_succ, hr, List.flatMap_append, List.map_append]
        simp
    · rw [hI, List.length_map, List.take_length]
      trivial
      refine hN _ ⟨some (.val (.str x)), z4, z5, ?_⟩
      rw [et, divRows_snoc, hR]
  · subst e
    rw [List.length_map, List.take_length]
    have ro := div_rows hn m
    have rl := rows_few ro lm ln
    trivial
    refine ⟨nn_of (by rw [List.length_map]; omega), lcW_map (fun d => match d with | .tup ls => decide (ls.length = m) | _ => false) id _ _ (fun d hd Y N hy hn => ?_) ?_⟩
    · obtain ⟨r, mr, rfl⟩ := List.mem_map.mp hd
      trivial
      refine iteB (fun c => ?_) (fun c => ?_)
      · have c := of_decide_eq_true c
        exact ⟨_, rfl, hy (decide_eq_true (by rw [List.length_map] at c ⊢; omega))⟩
      · have c := of_decide_eq_false c
        exact hn (decide_eq_false (by rw [List.length_map] at c ⊢; omega))
    · have e : ([] : List D) ++ ((((divRows m n [[]]).map tupsD).filter fun d => match d with | .tup ls => decide (ls.length = m) | _ => false).map id) = ((divRows m n [[]]).filter fun r => decide (r.length = m)).map tupsD := by
        rw [List.map_id, List.nil_append, List.filter_map]
        congr 1
        refine List.filter_congr fun r _ => ?_
        show decide ((List.map (fun l => D.tup (List.map D.str l)) r).length = m) = _
        rw [List.length_map]
      rw [e]
      trivial
      refine sortDK_of (sortOk_tupss fun h2 r mr z => ?_) (lim_of (by rw [List.length_map]; exact Nat.le_trans (List.length_filter_le _ _) (by omega))) ?_
      · have mz := of_decide_eq_true (List.mem_filter.mp mr).2
        have := one_nil (ro.nd.sublist (List.filter_sublist (p := fun r => decide (r.length = m)))) fun q mq => by
          have := of_decide_eq_true (List.mem_filter.mp mq).2
          rw [z] at mz
          exact List.length_eq_zero_iff.mp (this.trans mz.symm)
        omega
      rw [sortD_tupss]
      trivial
      exact h
def allpF (c : EK → Addr) : FD := fun rs Q E => ∃ d ds, rs = [.val d] ∧ seqD d = some ds ∧ FlatL ds ∧ toldK c (allpDue ds) (Q (.val (tupssD (divL (sortS (strsD ds)) 4)))) E
theorem mono_allpF {c : EK → Addr} : MonoF (allpF c) := fun rs Q Q' E E' hq he ⟨d, ds, h1, h2, h3, h4⟩ => ⟨d, ds, h1, h2, h3, toldK_mono (hq _) he h4⟩
theorem allp_of {c : EK → Addr} {Q : RV → Prop} {E : Exc → Prop} {d : D} {ds : List D} (h2 : seqD d = some ds) (h3 : FlatL ds) (h : toldK c (allpDue ds) (Q (.val (tupssD (divL (sortS (strsD ds)) 4)))) E) : app (allpF c) [.val d] Q E := ⟨d, ds, rfl, h2, h3, h⟩
abbrev sp_all_partings (c : EK → Addr) : FD := allpF c
theorem mono_all_partings {c : EK → Addr} : MonoF (sp_all_partings c) := mono_allpF
theorem ok_all_partings (T : Tx K mg A) : FnOk P w K mg base (L2N.CX P w) 5 A.a_all_partings A.f_all_partings ["names"] (spD K 1 (sp_all_partings (cA A))) := by
  refine fn_okD T.F_all_partings sc_all_partings (by decide) (fun cdv A0 outer s H E g hK hr cy => ?_)
  refine ⟨_, _, (dss_cons (ds_asg 1 (DE.frz (de_call cy (ok_name_tuple T) mono_name_tuple (hr.mono (by decide)) (by rfl) T.m_name_tuple T.F_name_tuple.kp T.b_name_tuple (da_cons (de_var 0) da_nil))) sc_all_partings.nd)
    (dss_cons (ds_expr (de_call cy (ok_require_few T) mono_require_few (hr.mono (by decide)) (by rfl) T.m_require_few T.F_require_few.kp T.b_require_few (da_cons (de_var 1) (da_cons (de_gint (by rfl) T.m_PARTED_NAMES) da_nil))))
    (dss_one (ds_ret (de_call cy (ok_divisions T) mono_divisions (hr.mono (by decide)) (by rfl) T.m_divisions T.F_divisions.kp T.b_divisions (da_cons (de_var 1) (da_cons (de_gint (by rfl) T.m_LOTS) da_nil))))))), fun rs Q Ex hlen h => ?_⟩
  obtain ⟨d, ds, rfl, hd, hf, h⟩ := h
  unfold allpDue at h
  rw [toldK_or] at h
  trivial
  refine nametup_of hd hf.1 hf.2 (toldK_go h fun x0 h => ?_)
  obtain ⟨sn, rfl, on, ln⟩ := namesDue_none x0
  rw [strsD_map] at h ⊢
  trivial
  have ls : (sortS sn).length = sn.length := sortS_len sn
  rw [List.length_map, ← ls] at h
  rw [show (D.tup ((sortS sn).map D.str)) = tupS (sortS sn) from rfl]
  refine fewD_of ?_
  rw [List.length_map]
  refine toldK_go h fun x1 h => ?_
  trivial
  have l7 : (sortS sn).length ≤ 7 := by
    unfold fewDue at x1
    split at x1
    · cases x1
    · omega
  exact divis_of (m := 4) ⟨sortS_ok on, sortS_id (sortS_pw sn)⟩ l7 (by decide) h
def cntpF (c : EK → Addr) : FD := fun rs Q E => ∃ d, rs = [.val d] ∧ FlatD d ∧ toldK c (numDue 0 12 d) (∀ k : Nat, d = .int k → k ≤ 12 → Q (.val (.int (stir k 4 : Nat)))) E
theorem mono_cntpF {c : EK → Addr} : MonoF (cntpF c) := fun rs Q Q' E E' hq he ⟨d, h1, h2, h3⟩ => ⟨d, h1, h2, toldK_mono (fun q k e l => hq _ (q k e l)) he h3⟩
theorem cntp_of {c : EK → Addr} {Q : RV → Prop} {E : Exc → Prop} {d : D} (h2 : FlatD d) (h : toldK c (numDue 0 12 d) (∀ k : Nat, d = .int k → k ≤ 12 → Q (.val (.int (stir k 4 : Nat)))) E) : app (cntpF c) [.val d] Q E := ⟨d, rfl, h2, h⟩
abbrev sp_count_partings (c : EK → Addr) : FD := cntpF c
theorem mono_count_partings {c : EK → Addr} : MonoF (sp_count_partings c) := mono_cntpF
theorem ok_count_partings (T : Tx K mg A) : FnOk P w K mg base (L2N.CX P w) 5 A.a_count_partings A.f_count_partings ["count"] (spD K 1 (sp_count_partings (cA A))) := by
  refine fn_okD T.F_count_partings sc_count_partings (by decide) (fun cdv A0 outer s H E g hK hr cy => ?_)
  refine ⟨_, _, (dss_cons (ds_expr (de_call cy (ok_check_number T) mono_check_number (hr.mono (by decide)) (by rfl) T.m_check_number T.F_check_number.kp T.b_check_number (da_cons (de_var 0) (da_cons de_int (da_cons (de_gint (by rfl) T.m_MOST_NAMES) da_nil)))))
    (dss_cons (ds_asg 1 (DE.frz (de_add cy (de_lst (da_cons de_int da_nil)) (de_mulL cy (de_lst (da_cons de_int da_nil)) (de_gint (by rfl) T.m_LOTS)))) sc_count_partings.nd)
    (dss_cons (ds_for cy (di_range1 (by rfl) T.m_range (da_cons (de_var 0) da_nil)) (dg_name 2 sc_count_partings.nd) (dss_one (ds_asg 1 (DE.frz (de_add cy (de_lst (da_cons de_int da_nil)) (de_lc cy (own := [("lots", 3)]) sc_count_partings.nd (di_range2 (by rfl) T.m_range (da_cons de_int (da_cons (de_add cy (de_gint (by rfl) T.m_LOTS) de_int) da_nil))) (blkOk_by (own := [("lots", 3)]) (N := N_count_partings) (sc := defScope s_count_partings) (by decide +kernel)) (fun _ _ _ _ _ cy => (dg_name 3 sc_count_partings.nd)) (fun _ _ _ _ _ cy => dts_nil) (fun _ _ _ _ _ cy => (de_add cy (de_mul cy (de_var 3) (de_item cy (de_var 1) (de_var 3))) (de_item cy (de_var 1) (de_sub cy (de_var 3) de_int))))))) sc_count_partings.nd)))
    (dss_one (ds_ret (de_item cy (de_var 1) (de_gint (by rfl) T.m_LOTS))))))), fun rs Q Ex hlen h => ?_⟩
  obtain ⟨d, rfl, hf, h⟩ := h
  trivial
  refine cnum_of hf (toldK_go h fun x0 h => ?_)
  obtain ⟨k, rfl, hk⟩ := num_nat x0
  have h := h k rfl (by omega)
  trivial
  refine ⟨lim_of (by decide), lim_of (by decide), ⟨by decide, by decide, by decide⟩, ?_⟩
  rw [show D.int 1 :: (List.replicate (Int.toNat 4) [D.int 0]).flatten = stirRow 0 from rfl, range_len]
  refine ⟨lim_of (by decide), by omega, by omega, nn_of (by omega), forW_inv (fun i env => ∃ z2 z3 : Option SV, env = [some (.val (.int (k : Nat))), some (.val (.lst (stirRow i))), z2, z3]) (fun i d env N hi ⟨z2, z3, e⟩ hN => ?_) (fun env ⟨z2, z3, e⟩ => ?_) _ ⟨none, none, rfl⟩⟩
  · subst e
    obtain ⟨lt, rfl⟩ := range_at hi
    trivial
    rw [show (4 + 1 - 1 : Int).toNat = 4 from rfl, range_len]
    refine ⟨lim_of (by decide), by decide, by decide, by decide, by decide, nn_of (by decide), lcW_inv (fun j acc => acc = (List.range j).map fun j => D.int ((j + 1 : Nat) * (stir i (j + 1) : Nat) + (stir i j : Nat) : Int)) (fun j d acc Y N hj hI hY _ => ?_) (fun acc hI => ?_) _ rfl⟩
    · obtain ⟨lj, rfl⟩ := range_at hj
      trivial
      rw [show (1 : Int) + (j : Nat) = ((j + 1 : Nat) : Int) by omega]
      refine atK_at (stirRow_at _ (by omega)) ?_
      trivial
      refine ⟨cmul_l (by omega) (by omega), ?_⟩
      rw [show ((j + 1 : Nat) : Int) - 1 = (j : Int) by omega]
      refine atK_at (stirRow_at _ (by omega)) ?_
      trivial
      refine ⟨_, rfl, hY _ ?_⟩
      rw [hI, List.range_succ, List.map_append]
      rfl
    · subst hI
      rw [range_len]
      trivial
      refine ⟨lim_of (by rw [List.length_map, List.length_range]; decide), hN _ ⟨some (.val (.int (0 + (i : Nat)))), z3, ?_⟩⟩
      rw [stirRow_step]
  · subst e
    rw [range_len]
    trivial
    refine atK_at (j := 4) (stirRow_at _ (by decide)) ?_
    rw [Int.toNat_natCast]
    exact h
end
end K38
namespace K38
open PySem PySem.Spec L2 DL
section
variable {P : Program} {w : World} {K : PySem.W.Frag} {mg : Str → Option Value} {base : Heap} {A : TxA}
local macro_rules | `(tactic| trivial) => `(tactic| simp -dsimp only [↓W_lst, ↓W_lst1, ↓W_isS, ↓W_bt, ↓W_bc, ↓W_bz, ↓W_asgG, ↓W_valK, ↓W_rg2, ↓W_rg2k, ↓W_lc2, ↓W_ltD, ↓List.zip_cons_cons, ↓List.zip_nil_left, ↓W_lent, ↓W_lent1, ↓W_lent2, ↓W_lent3, ↓W_lent4, ↓W_mulL, ↓W_var, ↓W_var1, ↓W_var2, ↓W_var3, ↓W_c, ↓W_frz, ↓W_frz1, ↓W_frz2, ↓W_frz3, ↓W_frz4, ↓W_op, ↓W_call, ↓W_fn, ↓W_fn0, ↓W_fnK, ↓W_nil, ↓W_cons, ↓W_add1, ↓W_add2, ↓W_add3, ↓W_add4, ↓W_add5, ↓W_add6, ↓W_add7, ↓W_int, ↓W_int0, ↓W_mul1, ↓W_mul2, ↓W_eq1, ↓W_eq2, ↓W_eq3, ↓W_eq4, ↓W_ne1, ↓W_ne2, ↓W_ne3, ↓W_in1, ↓W_in2, ↓W_in3, ↓W_in4, ↓W_in5, ↓W_is1, ↓W_is2, ↓W_at, ↓W_atS, ↓W_ix1, ↓W_ix2, ↓W_ix3, ↓W_ix4, ↓W_sl, ↓W_on, ↓W_os, ↓W_part, ↓W_sl1, ↓W_sl2, ↓W_sl3, ↓W_sl4, ↓W_len1, ↓W_len2, ↓W_len3, ↓W_len4, ↓W_abs, ↓W_intf, ↓W_strf, ↓W_list1, ↓W_list2, ↓W_list3, ↓W_tup1, ↓W_tup2, ↓W_tup3, ↓W_max, ↓W_min, ↓W_allK, ↓W_all1, ↓W_isi1, ↓W_isi2, ↓W_k_ns, ↓W_k_bs, ↓W_k_is, ↓W_k_ss, ↓W_k_ts, ↓W_k_ls, ↓W_k_nb, ↓W_k_bb, ↓W_k_ib, ↓W_k_sb, ↓W_k_tb, ↓W_k_lb, ↓W_k_ni, ↓W_k_bi, ↓W_k_ii, ↓W_k_si, ↓W_k_ti, ↓W_k_li, ↓W_k_nt, ↓W_k_bt, ↓W_k_it, ↓W_k_st, ↓W_k_tt, ↓W_k_lt, ↓W_k_nl, ↓W_k_bl, ↓W_k_il, ↓W_k_sl, ↓W_k_tl, ↓W_k_ll, ↓W_valsK, ↓W_etup, ↓W_elst, ↓W_vals0, ↓W_vals1, ↓W_bool, ↓W_bool1, ↓W_tand, ↓W_tor, ↓W_tnot, ↓W_tru, ↓W_tru1, ↓W_tru2, ↓W_tru3, ↓W_tru4, ↓W_tru5, ↓W_tru6, ↓W_tru7, ↓W_bo, ↓W_eand, ↓W_eor, ↓W_enot, ↓W_ink, ↓W_eneg, ↓W_snil, ↓W_seq, ↓W_asg, ↓W_asg1, ↓W_asg2, ↓W_asg3, ↓W_ret, ↓W_hand1, ↓W_hand2, ↓W_hand3, ↓W_hand4, ↓W_expr, ↓W_if, ↓W_for, ↓W_any, ↓W_it1, ↓W_it2, ↓W_it3, ↓W_rg1, ↓W_lc, ↓W_bn, ↓W_yes, ↓W_ownK, ↓W_mut, ↓W_app, ↓W_ins, ↓W_setK, ↓W_stK, ↓W_setIx, ↓W_strK, ↓W_upper, ↓W_join1, ↓W_start, ↓W_slot1, ↓W_slot2, ↓W_arg1, ↓W_arg2, ↓W_sFrz, ↓W_strb, ↓W_sortK, ↓W_sorted1, ↓W_sorted2, ↓W_sorted3, ↓W_loan, ↓W_lent1, ↓W_lent2, ↓W_lent3, ↓W_lent4, ↓W_lent, ↓W_lfR1, ↓W_lfR2, ↓W_clear, ↓W_reverse, ↓W_extend1, ↓W_extend2, ↓W_intfb, ↓W_sidx, ↓W_raiseK, ↓W_raise, ↓W_try, ↓W_isPK, ↓W_fld, ↓W_errK, ↓W_errO, ↓W_cut, ↓W_startL, ↓W_rev3, ↓W_lrev, ↓W_revK1, ↓W_revK2, ↓W_rev2, ↓W_keepL, ↓W_mk, ↓W_mkKw, ↓W_ini0, ↓W_ini1, ↓W_ini2, ↓W_blK, ↓W_lnK, ↓W_lbK, ↓W_inO, ↓W_lenO, ↓W_boolO, ↓W_eqA, ↓W_isO, ↓W_prop, ↓W_prK, ↓W_itO, ↓W_lcX, ↓W_inD1, ↓W_inD2, ↓W_inD3, ↓W_en, ↓W_en1, ↓W_en2, ↓W_bt, ↓W_bc, ↓W_bz, ↓W_chK, ↓W_chain, ↓W_startO, ↓W_slotO1, ↓W_slotO2, ↓W_slotO3, ↓W_tKeep, ↓W_tOrE, ↓W_tAndE, ↓W_tNotE, ↓W_ifE, ↓W_anyI, ↓W_anyK, ↓W_meth, ↓W_mtK, ↓W_meth0, ↓W_mt0K, ↓W_methK, ↓W_mtkK, ↓W_bare0, ↓W_bare1, ↓W_trev, ↓W_trK, ↓W_obj, ↓W_mkK, ↓W_sortedD1, ↓W_sortedD2, ↓W_sortedD3, ↓W_raise2, ↓W_raiseK2, ↓W_setOf1, ↓W_setOf2, ↓W_setOf3, ↓W_sc, endsD, endsTry, wipeE, List.foldr_cons, List.foldr_nil, List.length_cons, List.length_nil, List.map_cons, List.map_nil, List.cons_append, List.nil_append, List.append_nil, List.replicate, List.getElem?_cons_zero, List.getElem?_cons_succ, List.getElem?_nil, List.set_cons_zero, List.set_cons_succ, Nat.reduceAdd, Nat.reduceSub, Nat.zero_add, if_true, if_false, Bool.false_eq_true, Bool.not_true, Bool.not_false, true_and, and_true, List.forall_mem_cons, List.mem_cons, List.not_mem_nil, or_false, forall_eq_or_imp, forall_eq, false_and, and_false, implies_true, false_or, Option.map_some, Option.map_none, ite_self, Bool.and_true, Bool.true_and, Bool.and_false, Bool.false_and, List.forall_mem_nil, decide_true, decide_false, isNonD, signsD, lf, lfL, eq_self])
theorem mono__law_onekind {c : EK → Addr} {ks : List EK} {a : Addr} {z : Exc} : MonoF (oneKF c ks a z) := mono_oneKF
theorem okH__law_onekind (T : Tx K mg A) {ea : Addr} {eo : Obj} {z : Exc} {d : Option Addr} (O : ErrO eo z.C d) : FnHp P w K mg base (L2N.CX P w) 1 A.a__law_onekind A.f__law_onekind ["error"] (spX K z d 1 (oneKF (cA A) kinds ea z)) (ea, eo) := by
  by_cases hz : ∃ e : Er, e.k ∈ kinds ∧ e.xs.length = e.k.flds.length ∧ z = e.X (cA A)
  · obtain ⟨e, hk, hxl, rfl⟩ := hz
    have EC := (T.clsF hk).E
    have hp : (ea, eo) ∈ [(ea, eo)] := List.mem_cons_self
    refine fn_okHp T.F__law_onekind sc__law_onekind (by decide) (fun cdv A0 outer s H E g hK hX hot hr cy => ?_)
    refine ⟨_, _, (dss_cons (ds_asg 1 (DE.frz (de_lst (da_cons (de_isP (z := e.X (cA A)) cy EC O hp hX (by rfl) T.m_isinstance (da_cons (de_var 0) (da_cons (de_gcls (by rfl) T.m_BadName) da_nil))) (da_cons (de_isP (z := e.X (cA A)) cy EC O hp hX (by rfl) T.m_isinstance (da_cons (de_var 0) (da_cons (de_gcls (by rfl) T.m_RepeatedName) da_nil))) (da_cons (de_isP (z := e.X (cA A)) cy EC O hp hX (by rfl) T.m_isinstance (da_cons (de_var 0) (da_cons (de_gcls (by rfl) T.m_UnknownName) da_nil))) da_nil))))) sc__law_onekind.nd)
    (dss_cons (ds_asg 1 (DE.frz (de_add cy (de_var 1) (de_lst (da_cons (de_isP (z := e.X (cA A)) cy EC O hp hX (by rfl) T.m_isinstance (da_cons (de_var 0) (da_cons (de_gcls (by rfl) T.m_TooMany) da_nil))) (da_cons (de_isP (z := e.X (cA A)) cy EC O hp hX (by rfl) T.m_isinstance (da_cons (de_var 0) (da_cons (de_gcls (by rfl) T.m_WrongCount) da_nil))) (da_cons (de_isP (z := e.X (cA A)) cy EC O hp hX (by rfl) T.m_isinstance (da_cons (de_var 0) (da_cons (de_gcls (by rfl) T.m_BadNumber) da_nil))) da_nil)))))) sc__law_onekind.nd)
    (dss_cons (ds_asg 1 (DE.frz (de_add cy (de_var 1) (de_lst (da_cons (de_isP (z := e.X (cA A)) cy EC O hp hX (by rfl) T.m_isinstance (da_cons (de_var 0) (da_cons (de_gcls (by rfl) T.m_BadSplit) da_nil))) (da_cons (de_isP (z := e.X (cA A)) cy EC O hp hX (by rfl) T.m_isinstance (da_cons (de_var 0) (da_cons (de_gcls (by rfl) T.m_Clash) da_nil))) (da_cons (de_isP (z := e.X (cA A)) cy EC O hp hX (by rfl) T.m_isinstance (da_cons (de_var 0) (da_cons (de_gcls (by rfl) T.m_BadText) da_nil))) da_nil)))))) sc__law_onekind.nd)
    (dss_cons (ds_asg 1 (DE.frz (de_add cy (de_var 1) (de_lst (da_cons (de_isP (z := e.X (cA A)) cy EC O hp hX (by rfl) T.m_isinstance (da_cons (de_var 0) (da_cons (de_gcls (by rfl) T.m_BadLine) da_nil))) (da_cons (de_isP (z := e.X (cA A)) cy EC O hp hX (by rfl) T.m_isinstance (da_cons (de_var 0) (da_cons (de_gcls (by rfl) T.m_BadTelling) da_nil))) (da_cons (de_isP (z := e.X (cA A)) cy EC O hp hX (by rfl) T.m_isinstance (da_cons (de_var 0) (da_cons (de_gcls (by rfl) T.m_NotInAll) da_nil))) da_nil)))))) sc__law_onekind.nd)
    (dss_cons (ds_asg 1 (DE.frz (de_add cy (de_var 1) (de_lst (da_cons (de_isP (z := e.X (cA A)) cy EC O hp hX (by rfl) T.m_isinstance (da_cons (de_var 0) (da_cons (de_gcls (by rfl) T.m_NotAlike) da_nil))) (da_cons (de_isP (z := e.X (cA A)) cy EC O hp hX (by rfl) T.m_isinstance (da_cons (de_var 0) (da_cons (de_gcls (by rfl) T.m_Untold) da_nil))) (da_cons (de_isP (z := e.X (cA A)) cy EC O hp hX (by rfl) T.m_isinstance (da_cons (de_var 0) (da_cons (de_gcls (by rfl) T.m_BadPlaces) da_nil))) da_nil)))))) sc__law_onekind.nd)
    (dss_cons (ds_asg 1 (DE.frz (de_add cy (de_var 1) (de_lst (da_cons (de_isP (z := e.X (cA A)) cy EC O hp hX (by rfl) T.m_isinstance (da_cons (de_var 0) (da_cons (de_gcls (by rfl) T.m_BadSpot) da_nil))) (da_cons (de_isP (z := e.X (cA A)) cy EC O hp hX (by rfl) T.m_isinstance (da_cons (de_var 0) (da_cons (de_gcls (by rfl) T.m_BadParting) da_nil))) (da_cons (de_isP (z := e.X (cA A)) cy EC O hp hX (by rfl) T.m_isinstance (da_cons (de_var 0) (da_cons (de_gcls (by rfl) T.m_BadPaper) da_nil))) da_nil)))))) sc__law_onekind.nd)
    (dss_cons (ds_asg 1 (DE.frz (de_add cy (de_var 1) (de_lst (da_cons (de_isP (z := e.X (cA A)) cy EC O hp hX (by rfl) T.m_isinstance (da_cons (de_var 0) (da_cons (de_gcls (by rfl) T.m_UnlikeNames) da_nil))) (da_cons (de_isP (z := e.X (cA A)) cy EC O hp hX (by rfl) T.m_isinstance (da_cons (de_var 0) (da_cons (de_gcls (by rfl) T.m_SameTree) da_nil))) (da_cons (de_isP (z := e.X (cA A)) cy EC O hp hX (by rfl) T.m_isinstance (da_cons (de_var 0) (da_cons (de_gcls (by rfl) T.m_NoTree) da_nil))) da_nil)))))) sc__law_onekind.nd)
    (dss_cons (ds_asg 1 (DE.frz (de_add cy (de_var 1) (de_lst (da_cons (de_isP (z := e.X (cA A)) cy EC O hp hX (by rfl) T.m_isinstance (da_cons (de_var 0) (da_cons (de_gcls (by rfl) T.m_SeveralTrees) da_nil))) da_nil)))) sc__law_onekind.nd)
    (dss_cons (ds_if (DW.dt (dw_or (dt_not (dt_tru cy (de_isP (z := e.X (cA A)) cy EC O hp hX (by rfl) T.m_isinstance (da_cons (de_var 0) (da_cons (de_gcls (by rfl) T.m_FourmetError) da_nil))))) (dw_or1 (dt_not (dt_tru cy (de_isP (z := e.X (cA A)) cy EC O hp hX (by rfl) T.m_isinstance (da_cons (de_var 0) (da_cons (de_ty (n := "ValueError") (by rfl) T.m_ValueError (by decide +kernel)) da_nil)))))))) (dss_one (ds_ret de_bl)) dss_nil)
    (dss_one (ds_ret (de_eq cy (de_len cy (by rfl) T.m_len (de_lcO cy ⟨(ea, eo), hot, List.mem_cons_self⟩ (own := [("item", 2)]) sc__law_onekind.nd (de_var 1) (blkOk_by (own := [("item", 2)]) (N := N__law_onekind) (sc := defScope s__law_onekind) (by decide +kernel)) (fun _ _ _ _ _ cy => (dg_name 2 sc__law_onekind.nd)) (fun _ _ _ _ _ cy => (dts_one (dt_tru cy (de_var 2)))) (fun _ _ _ _ _ cy => (de_var 2)))) de_int)))))))))))), fun rs Q Ex hlen h => ?_⟩
    obtain ⟨e', hk', hl', hz', rfl, h⟩ := h
    obtain rfl := T.erinj hk hk' hz'
    trivial
    refine isP_of (by rw [hK]; exact T.p_BadName hk) ?_
    trivial
    refine isP_of (by rw [hK]; exact T.p_RepeatedName hk) ?_
    trivial
    refine isP_of (by rw [hK]; exact T.p_UnknownName hk) ?_
    trivial
    repeat (refine ⟨lim_of (by decide), ?_⟩)
    refine isP_of (by rw [hK]; exact T.p_TooMany hk) ?_
    trivial
    refine isP_of (by rw [hK]; exact T.p_WrongCount hk) ?_
    trivial
    refine isP_of (by rw [hK]; exact T.p_BadNumber hk) ?_
    trivial
    repeat (refine ⟨lim_of (by decide), ?_⟩)
    refine isP_of (by rw [hK]; exact T.p_BadSplit hk) ?_
    trivial
    refine isP_of (by rw [hK]; exact T.p_Clash hk) ?_
    trivial
    refine isP_of (by rw [hK]; exact T.p_BadText hk) ?_
    trivial
    repeat (refine ⟨lim_of (by decide), ?_⟩)
    refine isP_of (by rw [hK]; exact T.p_BadLine hk) ?_
    trivial
    refine isP_of (by rw [hK]; exact T.p_BadTelling hk) ?_
    trivial
    refine isP_of (by rw [hK]; exact T.p_NotInAll hk) ?_
    trivial
    repeat (refine ⟨lim_of (by decide), ?_⟩)
    refine isP_of (by rw [hK]; exact T.p_NotAlike hk) ?_
    trivial
    refine isP_of (by rw [hK]; exact T.p_Untold hk) ?_
    trivial
    refine isP_of (by rw [hK]; exact T.p_BadPlaces hk) ?_
    trivial
    repeat (refine ⟨lim_of (by decide), ?_⟩)
    refine isP_of (by rw [hK]; exact T.p_BadSpot hk) ?_
    trivial
    refine isP_of (by rw [hK]; exact T.p_BadParting hk) ?_
    trivial
    refine isP_of (by rw [hK]; exact T.p_BadPaper hk) ?_
    trivial
    repeat (refine ⟨lim_of (by decide), ?_⟩)
    refine isP_of (by rw [hK]; exact T.p_UnlikeNames hk) ?_
    trivial
    refine isP_of (by rw [hK]; exact T.p_SameTree hk) ?_
    trivial
    refine isP_of (by rw [hK]; exact T.p_NoTree hk) ?_
    trivial
    repeat (refine ⟨lim_of (by decide), ?_⟩)
    refine isP_of (by rw [hK]; exact T.p_SeveralTrees hk) ?_
    trivial
    repeat (refine ⟨lim_of (by decide), ?_⟩)
    refine isP_of (by rw [hK]; exact T.fe hk) ?_
    trivial
    refine isP_of (by rw [hK]; exact T.ve hk) ?_
    trivial
    refine ⟨nn_of (by decide), lcW_map blB id _ _ (fun d hd Y N hy hn => ?_) ?_⟩
    · obtain ⟨b, rfl⟩ : ∃ b, d = .bl b := by
        simp only [List.mem_cons, List.not_mem_nil, or_false] at hd
        rcases hd with rfl | rfl | rfl | rfl | rfl | rfl | rfl | rfl | rfl | rfl | rfl | rfl | rfl | rfl | rfl | rfl | rfl | rfl | rfl | rfl | rfl | rfl <;> exact ⟨_, rfl⟩
      trivial
      cases b
      · exact hn rfl
      · exact ⟨_, rfl, hy rfl⟩
    · generalize hY : ([] : List D) ++ (List.filter blB _).map id = Y
      have hl : Y.length = 1 := by
        rw [← hY]
        simp only [kinds, List.mem_cons, List.not_mem_nil, or_false] at hk
        rcases hk with c | c | c | c <;> rw [c] <;> rfl
      trivial
      rw [hl]
      exact h
  · exact fnHp_none fun vs H Q E ⟨_, _, _, _, _, _, _, _, e, h1, h2, h3, _⟩ => hz ⟨e, h1, h2, h3⟩
theorem mono__law_told {c : EK → Addr} {ks : List EK} {a : Addr} {z : Exc} : MonoF (refF c ks a z) := mono_refF
theorem okH__law_told (T : Tx K mg A) {ea : Addr} {eo : Obj} {z : Exc} {d : Option Addr} (O : ErrO eo z.C d) : FnHp P w K mg base (L2N.CX P w) 2 A.a__law_told A.f__law_told ["error"] (spX K z d 1 (refF (cA A) kinds ea z)) (ea, eo) := by
  by_cases hz : ∃ e : Er, e.k ∈ kinds ∧ e.xs.length = e.k.flds.length ∧ z = e.X (cA A)
  · obtain ⟨e, hk, hxl, rfl⟩ := hz
    have EC := (T.clsF hk).E
    have hp : (ea, eo) ∈ [(ea, eo)] := List.mem_cons_self
    refine fn_okHp T.F__law_told sc__law_told (by decide) (fun cdv A0 outer s H E g hK hX hot hr cy => ?_)
    refine ⟨_, _, (dss_cons (ds_if (dt_not (dt_tru cy (de_callHp (pe := (ea, eo)) (z := e.X (cA A)) cy (okH__law_onekind T (ea := ea) (eo := eo) O) mono__law_onekind (hr.mono (by decide)) hot List.mem_cons_self hX (by rfl) T.m__law_onekind T.F__law_onekind.kp T.b__law_onekind (da_cons (de_var 0) da_nil)))) (dss_one (ds_ret de_non)) dss_nil)
    (dss_cons (ds_if (dt_tru cy (de_isP (z := e.X (cA A)) cy EC O hp hX (by rfl) T.m_isinstance (da_cons (de_var 0) (da_cons (de_gcls (by rfl) T.m_BadName) da_nil)))) (dss_one (ds_ret (de_tup (da_cons de_str (da_cons (de_errO (z := e.X (cA A)) cy EC O hp (T.fld hk (by decide)) hX (de_var 0)) da_nil))))) dss_nil)
    (dss_cons (ds_if (dt_tru cy (de_isP (z := e.X (cA A)) cy EC O hp hX (by rfl) T.m_isinstance (da_cons (de_var 0) (da_cons (de_gcls (by rfl) T.m_RepeatedName) da_nil)))) (dss_one (ds_ret (de_tup (da_cons de_str (da_cons (de_errO (z := e.X (cA A)) cy EC O hp (T.fld hk (by decide)) hX (de_var 0)) da_nil))))) dss_nil)
    (dss_cons (ds_if (dt_tru cy (de_isP (z := e.X (cA A)) cy EC O hp hX (by rfl) T.m_isinstance (da_cons (de_var 0) (da_cons (de_gcls (by rfl) T.m_TooMany) da_nil)))) (dss_one (ds_ret (de_tup (da_cons de_str (da_cons (de_errO (z := e.X (cA A)) cy EC O hp (T.fld hk (by decide)) hX (de_var 0)) da_nil))))) dss_nil)
    (dss_cons (ds_if (dt_tru cy (de_isP (z := e.X (cA A)) cy EC O hp hX (by rfl) T.m_isinstance (da_cons (de_var 0) (da_cons (de_gcls (by rfl) T.m_BadNumber) da_nil)))) (dss_one (ds_ret (de_tup (da_cons de_str (da_cons (de_errO (z := e.X (cA A)) cy EC O hp (T.fld hk (by decide)) hX (de_var 0)) da_nil))))) dss_nil)
    (dss_one (ds_ret de_non))))))), fun rs Q Ex hlen h => ?_⟩
    obtain ⟨e', hk', hl', hz', rfl, h⟩ := h
    obtain rfl := T.erinj hk hk' hz'
    trivial
    refine oneK_of hk hl' ?_
    trivial
    refine isP_of (by rw [hK]; exact T.p_BadName hk) ?_
    trivial
    refine iteB (fun c => ?_) (fun nBadName => ?_)
    · rcases e with ⟨ek, xs⟩
      obtain rfl : ek = .badName := of_decide_eq_true c
      match xs, hxl with
      | [x0], _ =>
        refine fld_of (d := x0) rfl ?_
        trivial
        exact ⟨lim_of (by decide), h⟩
    refine isP_of (by rw [hK]; exact T.p_RepeatedName hk) ?_
    trivial
    refine iteB (fun c => ?_) (fun nRepeatedName => ?_)
    · rcases e with ⟨ek, xs⟩
      obtain rfl : ek = .repeatedName := of_decide_eq_true c
      match xs, hxl with
      | [x0], _ =>
        refine fld_of (d := x0) rfl ?_
        trivial
        exact ⟨lim_of (by decide), h⟩
    refine isP_of (by rw [hK]; exact T.p_TooMany hk) ?_
    trivial
    refine iteB (fun c => ?_) (fun nTooMany => ?_)
    · rcases e with ⟨ek, xs⟩
      obtain rfl : ek = .tooMany := of_decide_eq_true c
      match xs, hxl with
      | [x0], _ =>
        refine fld_of (d := x0) rfl ?_
        trivial
        exact ⟨lim_of (by decide), h⟩
    refine isP_of (by rw [hK]; exact T.p_BadNumber hk) ?_
    trivial
    refine iteB (fun c => ?_) (fun nBadNumber => ?_)
    · rcases e with ⟨ek, xs⟩
      obtain rfl : ek = .badNumber := of_decide_eq_true c
      match xs, hxl with
      | [x0], _ =>
        refine fld_of (d := x0) rfl ?_
        trivial
        exact ⟨lim_of (by decide), h⟩
    exfalso
    have n1 := of_decide_eq_false nBadName
    have n2 := of_decide_eq_false nRepeatedName
    have n3 := of_decide_eq_false nTooMany
    have n4 := of_decide_eq_false nBadNumber
    simp only [kinds, List.mem_cons, List.not_mem_nil, or_false] at hk
    rcases hk with c | c | c | c
    · exact n1 c
    · exact n2 c
    · exact n3 c
    · exact n4 c
  · exact fnHp_none fun vs H Q E ⟨_, _, _, _, _, _, _, _, e, h1, h2, h3, _⟩ => hz ⟨e, h1, h2, h3⟩
end
end K38
namespace K38
open PySem PySem.Spec L2 DL
section
variable {P : Program} {w : World} {K : PySem.W.Frag} {mg : Str → Option Value} {base : Heap} {A : TxA}
local macro_rules | `(tactic| trivial) => `(tactic| simp -dsimp only [↓W_lst, ↓W_lst1, ↓W_isS, ↓W_bt, ↓W_bc, ↓W_bz, ↓W_asgG, ↓W_valK, ↓W_rg2, ↓W_rg2k, ↓W_lc2, ↓W_ltD, ↓List.zip_cons_cons, ↓List.zip_nil_left, ↓W_lent, ↓W_lent1, ↓W_lent2, ↓W_lent3, ↓W_lent4, ↓W_mulL, ↓W_var, ↓W_var1, ↓W_var2, ↓W_var3, ↓W_c, ↓W_frz, ↓W_frz1, ↓W_frz2, ↓W_frz3, ↓W_frz4, ↓W_op, ↓W_call, ↓W_fn, ↓W_fn0, ↓W_fnK, ↓W_nil, ↓W_cons, ↓W_add1, ↓W_add2, ↓W_add3, ↓W_add4, ↓W_add5, ↓W_add6, ↓W_add7, ↓W_int, ↓W_int0, ↓W_mul1, ↓W_mul2, ↓W_eq1, ↓W_eq2, ↓W_eq3, ↓W_eq4, ↓W_ne1, ↓W_ne2, ↓W_ne3, ↓W_in1, ↓W_in2, ↓W_in3, ↓W_in4, ↓W_in5, ↓W_is1, ↓W_is2, ↓W_at, ↓W_atS, ↓W_ix1, ↓W_ix2, ↓W_ix3, ↓W_ix4, ↓W_sl, ↓W_on, ↓W_os, ↓W_part, ↓W_sl1, ↓W_sl2, ↓W_sl3, ↓W_sl4, ↓W_len1, ↓W_len2, ↓W_len3, ↓W_len4, ↓W_abs, ↓W_intf, ↓W_strf, ↓W_list1, ↓W_list2, ↓W_list3, ↓W_tup1, ↓W_tup2, ↓W_tup3, ↓W_max, ↓W_min, ↓W_allK, ↓W_all1, ↓W_isi1, ↓W_isi2, ↓W_k_ns, ↓W_k_bs, ↓W_k_is, ↓W_k_ss, ↓W_k_ts, ↓W_k_ls, ↓W_k_nb, ↓W_k_bb, ↓W_k_ib, ↓W_k_sb, ↓W_k_tb, ↓W_k_lb, ↓W_k_ni, ↓W_k_bi, ↓W_k_ii, ↓W_k_si, ↓W_k_ti, ↓W_k_li, ↓W_k_nt, ↓W_k_bt, ↓W_k_it, ↓W_k_st, ↓W_k_tt, ↓W_k_lt, ↓W_k_nl, ↓W_k_bl, ↓W_k_il, ↓W_k_sl, ↓W_k_tl, ↓W_k_ll, ↓W_valsK, ↓W_etup, ↓W_elst, ↓W_vals0, ↓W_vals1, ↓W_bool, ↓W_bool1, ↓W_tand, ↓W_tor, ↓W_tnot, ↓W_tru, ↓W_tru1, ↓W_tru2, ↓W_tru3, ↓W_tru4, ↓W_tru5, ↓W_tru6, ↓W_tru7, ↓W_bo, ↓W_eand, ↓W_eor, ↓W_enot, ↓W_ink, ↓W_eneg, ↓W_snil, ↓W_seq, ↓W_asg, ↓W_asg1, ↓W_asg2, ↓W_asg3, ↓W_ret, ↓W_hand1, ↓W_hand2, ↓W_hand3, ↓W_hand4, ↓W_expr, ↓W_if, ↓W_for, ↓W_any, ↓W_it1, ↓W_it2, ↓W_it3, ↓W_rg1, ↓W_lc, ↓W_bn, ↓W_yes, ↓W_ownK, ↓W_mut, ↓W_app, ↓W_ins, ↓W_setK, ↓W_stK, ↓W_setIx, ↓W_strK, ↓W_upper, ↓W_join1, ↓W_start, ↓W_slot1, ↓W_slot2, ↓W_arg1, ↓W_arg2, ↓W_sFrz, ↓W_strb, ↓W_sortK, ↓W_sorted1, ↓W_sorted2, ↓W_sorted3, ↓W_loan, ↓W_lent1, ↓W_lent2, ↓W_lent3, ↓W_lent4, ↓W_lent, ↓W_lfR1, ↓W_lfR2, ↓W_clear, ↓W_reverse, ↓W_extend1, ↓W_extend2, ↓W_intfb, ↓W_sidx, ↓W_raiseK, ↓W_raise, ↓W_try, ↓W_isPK, ↓W_fld, ↓W_errK, ↓W_errO, ↓W_cut, ↓W_startL, ↓W_rev3, ↓W_lrev, ↓W_revK1, ↓W_revK2, ↓W_rev2, ↓W_keepL, ↓W_mk, ↓W_mkKw, ↓W_ini0, ↓W_ini1, ↓W_ini2, ↓W_blK, ↓W_lnK, ↓W_lbK, ↓W_inO, ↓W_lenO, ↓W_boolO, ↓W_eqA, ↓W_isO, ↓W_prop, ↓W_prK, ↓W_itO, ↓W_lcX, ↓W_inD1, ↓W_inD2, ↓W_inD3, ↓W_en, ↓W_en1, ↓W_en2, ↓W_bt, ↓W_bc, ↓W_bz, ↓W_chK, ↓W_chain, ↓W_startO, ↓W_slotO1, ↓W_slotO2, ↓W_slotO3, ↓W_tKeep, ↓W_tOrE, ↓W_tAndE, ↓W_tNotE, ↓W_ifE, ↓W_anyI, ↓W_anyK, ↓W_meth, ↓W_mtK, ↓W_meth0, ↓W_mt0K, ↓W_methK, ↓W_mtkK, ↓W_bare0, ↓W_bare1, ↓W_trev, ↓W_trK, ↓W_obj, ↓W_mkK, ↓W_sortedD1, ↓W_sortedD2, ↓W_sortedD3, ↓W_raise2, ↓W_raiseK2, ↓W_setOf1, ↓W_setOf2, ↓W_setOf3, ↓W_sc, endsD, endsTry, wipeE, List.foldr_cons, List.foldr_nil, List.length_cons, List.length_nil, List.map_cons, List.map_nil, List.cons_append, List.nil_append, List.append_nil, List.replicate, List.getElem?_cons_zero, List.getElem?_cons_succ, List.getElem?_nil, List.set_cons_zero, List.set_cons_succ, Nat.reduceAdd, Nat.reduceSub, Nat.zero_add, if_true, if_false, Bool.false_eq_true, Bool.not_true, Bool.not_false, true_and, and_true, List.forall_mem_cons, List.mem_cons, List.not_mem_nil, or_false, forall_eq_or_imp, forall_eq, false_and, and_false, implies_true, false_or, Option.map_some, Option.map_none, ite_self, Bool.and_true, Bool.true_and, Bool.and_false, Bool.false_and, List.forall_mem_nil, decide_true, decide_false, isNonD, signsD, lf, lfL, eq_self])
abbrev sp__law_badnumber : FD := wrongNF
theorem mono__law_badnumber : MonoF sp__law_badnumber := mono_wrongNF
theorem ok__law_badnumber (T : Tx K mg A) : FnOk P w K mg base (L2N.CX P w) 4 A.a__law_badnumber A.f__law_badnumber ["store", "low", "high", "allowed"] (spD K 4 sp__law_badnumber) := by
  refine fn_okD T.F__law_badnumber sc__law_badnumber (by decide) (fun cdv A0 outer s H E g hK hr cy => ?_)
  refine ⟨_, _, (dss_cut (ds_asg 4 (de_lst (da_cons (de_sub cy (de_var 1) de_int) (da_cons (de_add cy (de_var 2) de_int) (da_cons (de_sub cy (de_var 1) (de_pow cy de_int de_int)) (da_cons (de_add cy (de_var 2) (de_pow cy de_int de_int)) (da_cons de_bl (da_cons de_bl (da_cons de_str (da_cons de_str (da_cons (de_strf cy (by rfl) T.m_str (de_var 2)) da_nil)))))))))) sc__law_badnumber.nd)
    (dss_cut (ds_append cy 4 (pv 4) (de_sub cy (de_sub cy (de_var 1) de_int) (de_call cy (ok__law_take T) mono__law_take (hr.mono (by decide)) (by rfl) T.m__law_take T.F__law_take.kp T.b__law_take (da_cons (de_var 0) (da_cons de_int da_nil)))))
    (dss_cut (ds_append cy 4 (pv 4) (de_add cy (de_add cy (de_var 2) de_int) (de_call cy (ok__law_take T) mono__law_take (hr.mono (by decide)) (by rfl) T.m__law_take T.F__law_take.kp T.b__law_take (da_cons (de_var 0) (da_cons de_int da_nil)))))
    (dss_cut (ds_if (dt_not (dt_tru cy (de_var 3))) (dss_one (ds_append cy 4 (pv 4) de_non)) dss_nil)
    (dss_one (ds_ret (DE.loan (de_call cy (ok__law_pick T) mono__law_pick (hr.mono (by decide)) (by rfl) T.m__law_pick T.F__law_pick.kp T.b__law_pick (da_cons (de_var 0) (da_cons (de_var 4) da_nil)))))))))), fun rs Q Ex hlen h => ?_⟩
  obtain ⟨hi, al, rfl, h0, h1, h⟩ := h
  rw [show startE N__law_badnumber.length [.sto, .val (.int 0), .val (.int hi), .val (.bl al)] = [some .sto, some (.val (.int 0)), some (.val (.int hi)), some (.val (.bl al)), none] from rfl]
  trivial
  refine cut_of (fun env => ∃ ds : List D, env = [some .sto, some (.val (.int 0)), some (.val (.int hi)), some (.val (.bl al)), some (.own ds)] ∧ FlatL ds ∧ 0 < ds.length ∧ ds.length ≤ 9 ∧ BadL hi ds) ?_ fun env ⟨ds, e, hf, hl, hn, hb⟩ => ?_
  · trivial
    have p20 : (10 : Int) ^ (20 : Int).toNat = 100000000000000000000 := by decide
    rw [p20]
    refine ⟨⟨by decide, by decide, by decide⟩, ⟨by decide, by decide, by decide⟩, (hi_tiny h0 h1).1, lim_of (by decide), _, rfl, ⟨by simp, fun e m => ?_⟩, by simp, by simp, fun e m => ?_⟩
    · simp only [List.mem_cons, List.not_mem_nil, or_false] at m
      rcases m with rfl | rfl | rfl | rfl | rfl | rfl | rfl | rfl | rfl
      case inr.inr.inr.inr.inr.inr.inr.inr => exact (hi_tiny h0 h1).2
      case inr.inr.inr.inr.inr.inr.inl => exact ⟨by decide, allV_lit (by decide)⟩
      case inr.inr.inr.inr.inr.inr.inr.inl => exact ⟨by decide, allV_lit (by decide)⟩
      all_goals exact True.intro
    · simp only [List.mem_cons, List.not_mem_nil, or_false] at m
      rcases m with rfl | rfl | rfl | rfl | rfl | rfl | rfl | rfl | rfl
      case inl => exact num_out (by omega)
      case inr.inl => exact num_out (by omega)
      case inr.inr.inl => exact num_out (by omega)
      case inr.inr.inr.inl => exact num_out (by omega)
      all_goals rfl
  subst e
  trivial
  refine cut_of (fun env => ∃ ds : List D, env = [some .sto, some (.val (.int 0)), some (.val (.int hi)), some (.val (.bl al)), some (.own ds)] ∧ FlatL ds ∧ 0 < ds.length ∧ ds.length ≤ 10 ∧ BadL hi ds) ?_ fun env ⟨ds, e, hf, hl, hn, hb⟩ => ?_
  · trivial
    refine take_of (by decide) fun r r0 _ r1 => ?_
    trivial
    exact ⟨lim_of (by omega), _, rfl, flatL_snoc hf True.intro (by omega), by simp, by simp; omega, badL_add hb (num_out (by omega))⟩
  subst e
  trivial
  refine cut_of (fun env => ∃ ds : List D, env = [some .sto, some (.val (.int 0)), some (.val (.int hi)), some (.val (.bl al)), some (.own ds)] ∧ FlatL ds ∧ 0 < ds.length ∧ ds.length ≤ 11 ∧ BadL hi ds) ?_ fun env ⟨ds, e, hf, hl, hn, hb⟩ => ?_
  · trivial
    refine take_of (by decide) fun r r0 _ r1 => ?_
    trivial
    exact ⟨lim_of (by omega), _, rfl, flatL_snoc hf True.intro (by omega), by simp, by simp; omega, badL_add hb (num_out (by omega))⟩
  subst e
  trivial
  refine cut_of (fun env => ∃ ds : List D, env = [some .sto, some (.val (.int 0)), some (.val (.int hi)), some (.val (.bl al)), some (.own ds)] ∧ FlatL ds ∧ 0 < ds.length ∧ ds.length ≤ 12 ∧ BadL hi ds) ?_ fun env ⟨ds, e, hf, hl, hn, hb⟩ => ?_
  · trivial
    cases al
    · trivial
      exact ⟨lim_of (by omega), _, rfl, flatL_snoc hf True.intro (by omega), by simp, by simp; omega, badL_add hb rfl⟩
    · trivial
      exact ⟨_, rfl, hf, hl, by omega, hb⟩
  subst e
  trivial
  refine pick_lst hl (by omega) fun d hd => ?_
  have q := hf.2 d hd
  have q2 := hb d hd
  trivial
  exact ⟨flat_lf q, h d q q2⟩
abbrev sp__law_count : FD := countNF
theorem mono__law_count : MonoF sp__law_count := mono_countNF
theorem ok__law_count (T : Tx K mg A) : FnOk P w K mg base (L2N.CX P w) 3 A.a__law_count A.f__law_count ["store", "high"] (spD K 2 sp__law_count) := by
  refine fn_okD T.F__law_count sc__law_count (by decide) (fun cdv A0 outer s H E g hK hr cy => ?_)
  refine ⟨_, _, (dss_cons (ds_asg 2 (DE.frz (de_call cy (ok__law_take T) mono__law_take (hr.mono (by decide)) (by rfl) T.m__law_take T.F__law_take.kp T.b__law_take (da_cons (de_var 0) (da_cons de_int da_nil)))) sc__law_count.nd)
    (dss_cons (ds_if (dt_eq cy (de_var 2) de_int) (dss_one (ds_ret (de_call cy (ok__law_take T) mono__law_take (hr.mono (by decide)) (by rfl) T.m__law_take T.F__law_take.kp T.b__law_take (da_cons (de_var 0) (da_cons de_int da_nil))))) dss_nil)
    (dss_cons (ds_if (dt_eq cy (de_var 2) de_int) (dss_one (ds_ret (de_var 1))) dss_nil)
    (dss_cons (ds_if (dt_lt cy (de_var 2) de_int) (dss_one (ds_ret de_int)) dss_nil)
    (dss_cons (ds_if (dt_lt cy (de_var 2) de_int) (dss_one (ds_ret de_int)) dss_nil)
    (dss_one (ds_ret (de_add cy de_int (de_call cy (ok__law_take T) mono__law_take (hr.mono (by decide)) (by rfl) T.m__law_take T.F__law_take.kp T.b__law_take (da_cons (de_var 0) (da_cons (de_sub cy (de_var 1) de_int) da_nil))))))))))), fun rs Q Ex hlen h => ?_⟩
  obtain ⟨hi, rfl, h0, h1, h⟩ := h
  trivial
  refine take_of (by decide) fun r r0 _ r1 => ?_
  trivial
  refine iteB (fun _ => take_of (by decide) fun r2 a0 _ a1 => h r2 a0 (by omega)) (fun _ => ?_)
  refine iteB (fun _ => h hi (by omega) (by omega)) (fun _ => ?_)
  refine iteB (fun _ => h 4 (by omega) (by omega)) (fun _ => ?_)
  refine iteB (fun _ => h 5 (by omega) (by omega)) (fun _ => ?_)
  refine take_of (by omega) fun r2 a0 a1 a2 => ?_
  trivial
  exact h _ (by omega) (by omega)
abbrev sp__law_many : FD := manyF
theorem mono__law_many : MonoF sp__law_many := mono_manyF
theorem ok__law_many (T : Tx K mg A) : FnOk P w K mg base (L2N.CX P w) 1 A.a__law_many A.f__law_many ["count"] (spD K 1 sp__law_many) := by
  refine fn_okD T.F__law_many sc__law_many (by decide) (fun cdv A0 outer s H E g hK hr cy => ?_)
  refine ⟨_, _, (dss_cons (ds_if (dt_eq cy (de_var 0) de_int) (dss_one (ds_ret de_int)) dss_nil)
    (dss_cons (ds_asg 1 (DE.frz de_int) sc__law_many.nd)
    (dss_cons (ds_asg 2 (DE.frz de_int) sc__law_many.nd)
    (dss_cons (ds_asg 3 (DE.frz de_int) sc__law_many.nd)
    (dss_cons (ds_for cy (di_range1 (by rfl) T.m_range (da_cons (de_var 0) da_nil)) (dg_name 4 sc__law_many.nd) (dss_cons (ds_asg 1 (DE.frz (de_mul cy (de_var 1) de_int)) sc__law_many.nd)
    (dss_cons (ds_asg 2 (DE.frz (de_mul cy (de_var 2) de_int)) sc__law_many.nd)
    (dss_one (ds_asg 3 (DE.frz (de_mul cy (de_var 3) de_int)) sc__law_many.nd)))))
    (dss_one (ds_ret (de_fdiv cy (de_sub cy (de_add cy (de_sub cy (de_var 1) (de_mul cy de_int (de_var 2))) (de_mul cy de_int (de_var 3))) de_int) de_int)))))))), fun rs Q Ex hlen h => ?_⟩
  obtain ⟨k, rfl, hk, h⟩ := h
  trivial
  refine iteB (fun c => ?_) (fun c => ?_)
  · have c := of_decide_eq_true c
    obtain rfl : k = 0 := by omega
    exact h
  have c := of_decide_eq_false c
  have pw : ∀ i, i ≤ 12 → (3 : Int) ^ i < 2 ^ 64 ∧ (2 : Int) ^ i < 2 ^ 64 := fun i hi => by
    rcases (by omega : i = 0 ∨ i = 1 ∨ i = 2 ∨ i = 3 ∨ i = 4 ∨ i = 5 ∨ i = 6 ∨ i = 7 ∨ i = 8 ∨ i = 9 ∨ i = 10 ∨ i = 11 ∨ i = 12) with e | e | e | e | e | e | e | e | e | e | e | e | e <;> subst e <;> decide
  rw [range_len]
  refine ⟨by omega, by omega, nn_of (by omega), forW_inv (fun i env => ∃ z : Option SV, env = [some (.val (.int (k : Nat))), some (.val (.int (4 ^ i))), some (.val (.int (3 ^ i))), some (.val (.int (2 ^ i))), z]) (fun i d env N hi ⟨z, e⟩ hN => ?_) (fun env ⟨z, e⟩ => ?_) _ ⟨none, rfl⟩⟩
  · subst e
    obtain ⟨lt, rfl⟩ := range_at hi
    trivial
    refine ⟨cmul_r (by decide) (by decide), cmul_r (by decide) (by decide), cmul_r (by decide) (by decide), hN _ ⟨some (.val (.int (0 + (i : Nat)))), ?_⟩⟩
    rw [Int.pow_succ, Int.pow_succ, Int.pow_succ]
  · subst e
    rw [range_len, Int.toNat_natCast]
    trivial
    rw [stir_pow k hk (by omega)]
    exact ⟨cmul_l (by decide) (by decide), cmul_l (by decide) (by decide), ⟨by decide, by decide⟩, h⟩
end
end K38
namespace K38
open PySem PySem.Spec L2 DL
section
variable {P : Program} {w : World} {K : PySem.W.Frag} {mg : Str → Option Value} {base : Heap} {A : TxA}
local macro_rules | `(tactic| trivial) => `(tactic| simp -dsimp only [↓W_lst, ↓W_lst1, ↓W_isS, ↓W_bt, ↓W_bc, ↓W_bz, ↓W_asgG, ↓W_valK, ↓W_rg2, ↓W_rg2k, ↓W_lc2, ↓W_ltD, ↓List.zip_cons_cons, ↓List.zip_nil_left, ↓W_lent, ↓W_lent1, ↓W_lent2, ↓W_lent3, ↓W_lent4, ↓W_mulL, ↓W_var, ↓W_var1, ↓W_var2, ↓W_var3, ↓W_c, ↓W_frz, ↓W_frz1, ↓W_frz2, ↓W_frz3, ↓W_frz4, ↓W_op, ↓W_call, ↓W_fn, ↓W_fn0, ↓W_fnK, ↓W_nil, ↓W_cons, ↓W_add1, ↓W_add2, ↓W_add3, ↓W_add4, ↓W_add5, ↓W_add6, ↓W_add7, ↓W_int, ↓W_int0, ↓W_mul1, ↓W_mul2, ↓W_eq1, ↓W_eq2, ↓W_eq3, ↓W_eq4, ↓W_ne1, ↓W_ne2, ↓W_ne3, ↓W_in1, ↓W_in2, ↓W_in3, ↓W_in4, ↓W_in5, ↓W_is1, ↓W_is2, ↓W_at, ↓W_atS, ↓W_ix1, ↓W_ix2, ↓W_ix3, ↓W_ix4, ↓W_sl, ↓W_on, ↓W_os, ↓W_part, ↓W_sl1, ↓W_sl2, ↓W_sl3, ↓W_sl4, ↓W_len1, ↓W_len2, ↓W_len3, ↓W_len4, ↓W_abs, ↓W_intf, ↓W_strf, ↓W_list1, ↓W_list2, ↓W_list3, ↓W_tup1, ↓W_tup2, ↓W_tup3, ↓W_max, ↓W_min, ↓W_allK, ↓W_all1, ↓W_isi1, ↓W_isi2, ↓W_k_ns, ↓W_k_bs, ↓W_k_is, ↓W_k_ss, ↓W_k_ts, ↓W_k_ls, ↓W_k_nb, ↓W_k_bb, ↓W_k_ib, ↓W_k_sb, ↓W_k_tb, ↓W_k_lb, ↓W_k_ni, ↓W_k_bi, ↓W_k_ii, ↓W_k_si, ↓W_k_ti, ↓W_k_li, ↓W_k_nt, ↓W_k_bt, ↓W_k_it, ↓W_k_st, ↓W_k_tt, ↓W_k_lt, ↓W_k_nl, ↓W_k_bl, ↓W_k_il, ↓W_k_sl, ↓W_k_tl, ↓W_k_ll, ↓W_valsK, ↓W_etup, ↓W_elst, ↓W_vals0, ↓W_vals1, ↓W_bool, ↓W_bool1, ↓W_tand, ↓W_tor, ↓W_tnot, ↓W_tru, ↓W_tru1, ↓W_tru2, ↓W_tru3, ↓W_tru4, ↓W_tru5, ↓W_tru6, ↓W_tru7, ↓W_bo, ↓W_eand, ↓W_eor, ↓W_enot, ↓W_ink, ↓W_eneg, ↓W_snil, ↓W_seq, ↓W_asg, ↓W_asg1, ↓W_asg2, ↓W_asg3, ↓W_ret, ↓W_hand1, ↓W_hand2, ↓W_hand3, ↓W_hand4, ↓W_expr, ↓W_if, ↓W_for, ↓W_any, ↓W_it1, ↓W_it2, ↓W_it3, ↓W_rg1, ↓W_lc, ↓W_bn, ↓W_yes, ↓W_ownK, ↓W_mut, ↓W_app, ↓W_ins, ↓W_setK, ↓W_stK, ↓W_setIx, ↓W_strK, ↓W_upper, ↓W_join1, ↓W_start, ↓W_slot1, ↓W_slot2, ↓W_arg1, ↓W_arg2, ↓W_sFrz, ↓W_strb, ↓W_sortK, ↓W_sorted1, ↓W_sorted2, ↓W_sorted3, ↓W_loan, ↓W_lent1, ↓W_lent2, ↓W_lent3, ↓W_lent4, ↓W_lent, ↓W_lfR1, ↓W_lfR2, ↓W_clear, ↓W_reverse, ↓W_extend1, ↓W_extend2, ↓W_intfb, ↓W_sidx, ↓W_raiseK, ↓W_raise, ↓W_try, ↓W_isPK, ↓W_fld, ↓W_errK, ↓W_errO, ↓W_cut, ↓W_startL, ↓W_rev3, ↓W_lrev, ↓W_revK1, ↓W_revK2, ↓W_rev2, ↓W_keepL, ↓W_mk, ↓W_mkKw, ↓W_ini0, ↓W_ini1, ↓W_ini2, ↓W_blK, ↓W_lnK, ↓W_lbK, ↓W_inO, ↓W_lenO, ↓W_boolO, ↓W_eqA, ↓W_isO, ↓W_prop, ↓W_prK, ↓W_itO, ↓W_lcX, ↓W_inD1, ↓W_inD2, ↓W_inD3, ↓W_en, ↓W_en1, ↓W_en2, ↓W_bt, ↓W_bc, ↓W_bz, ↓W_chK, ↓W_chain, ↓W_startO, ↓W_slotO1, ↓W_slotO2, ↓W_slotO3, ↓W_tKeep, ↓W_tOrE, ↓W_tAndE, ↓W_tNotE, ↓W_ifE, ↓W_anyI, ↓W_anyK, ↓W_meth, ↓W_mtK, ↓W_meth0, ↓W_mt0K, ↓W_methK, ↓W_mtkK, ↓W_bare0, ↓W_bare1, ↓W_trev, ↓W_trK, ↓W_obj, ↓W_mkK, ↓W_sortedD1, ↓W_sortedD2, ↓W_sortedD3, ↓W_raise2, ↓W_raiseK2, ↓W_setOf1, ↓W_setOf2, ↓W_setOf3, ↓W_sc, endsD, endsTry, wipeE, List.foldr_cons, List.foldr_nil, List.length_cons, List.length_nil, List.map_cons, List.map_nil, List.cons_append, List.nil_append, List.append_nil, List.replicate, List.getElem?_cons_zero, List.getElem?_cons_succ, List.getElem?_nil, List.set_cons_zero, List.set_cons_succ, Nat.reduceAdd, Nat.reduceSub, Nat.zero_add, if_true, if_false, Bool.false_eq_true, Bool.not_true, Bool.not_false, true_and, and_true, List.forall_mem_cons, List.mem_cons, List.not_mem_nil, or_false, forall_eq_or_imp, forall_eq, false_and, and_false, implies_true, false_or, Option.map_some, Option.map_none, ite_self, Bool.and_true, Bool.true_and, Bool.and_false, Bool.false_and, List.forall_mem_nil, decide_true, decide_false, isNonD, signsD, lf, lfL, eq_self])
abbrev sp__law_flat : FD := lflatF
theorem mono__law_flat : MonoF sp__law_flat := mono_lflatF
theorem ok__law_flat (T : Tx K mg A) : FnOk P w K mg base (L2N.CX P w) 1 A.a__law_flat A.f__law_flat ["rows"] (spD K 1 sp__law_flat) := by
  refine fn_okD T.F__law_flat sc__law_flat (by decide) (fun cdv A0 outer s H E g hK hr cy => ?_)
  refine ⟨_, _, (dss_cons (ds_asg 1 (de_lst da_nil) sc__law_flat.nd)
    (dss_cons (ds_for cy (di_any cy (de_var 0)) (dg_name 2 sc__law_flat.nd) (dss_one (ds_for cy (di_any cy (de_var 2)) (dg_name 3 sc__law_flat.nd) (dss_one (ds_append cy 1 (pv 1) (de_var 3))))))
    (dss_one (ds_ret (de_var 1))))), fun rs Q Ex hlen h => ?_⟩
  obtain ⟨d, xss, rfl, hd, l1, l2, l3, h⟩ := h
  have lt : ∀ i, (xss.take i).flatten.length ≤ xss.flatten.length := fun i => flat_len (List.take_sublist _ _)
  cases d <;> simp only [seqD, Option.some.injEq, reduceCtorEq] at hd <;> subst hd
  all_goals
    trivial
    refine ⟨lim_of (by decide), nn_of (by rw [List.length_map]; omega), ?_⟩
    refine forW_inv (fun i env => ∃ (d0 : D) (z1 z2 : Option SV), env = [some (.val d0), some (.own (xss.take i).flatten), z1, z2]) (fun i d env N hi ⟨d0, z1, z2, e⟩ hN => ?S1) (fun env ⟨d0, z1, z2, e⟩ => ?T1) _ ⟨_, _, _, rfl⟩
    case T1 =>
      subst e
      rw [List.length_map, List.take_length]
      trivial
      exact h
    case S1 =>
      subst e
      rw [List.getElem?_map] at hi
      obtain ⟨xs, hx, rfl⟩ := Option.map_eq_some_iff.mp hi
      have lx := l2 xs (List.mem_of_getElem? hx)
      have e1 : (xss.take (i + 1)).flatten = (xss.take i).flatten ++ xs := by rw [List.take_succ, hx]; simp
      have l4 := lt (i + 1)
      rw [e1, List.length_append] at l4
      trivial
      refine ⟨nn_of (by omega), forW_inv (fun j env => ∃ z2 : Option SV, env = [some (.val d0), some (.own ((xss.take i).flatten ++ xs.take j)), some (.val (.tup xs)), z2]) (fun j d env N2 hj ⟨z2, e⟩ hN2 => ?S2) (fun env ⟨z2, e⟩ => ?T2) _ ⟨_, by rw [List.take_zero, List.append_nil]⟩⟩
      case T2 =>
        subst e
        rw [List.take_length, ← e1]
        exact hN _ ⟨_, _, _, rfl⟩
      case S2 =>
        subst e
        have lj := (List.getElem?_eq_some_iff.mp hj).1
        have e2 : xs.take (j + 1) = xs.take j ++ [d] := by rw [List.take_succ, hj]; rfl
        trivial
        refine ⟨Nat.lt_of_le_of_lt (show ((xss.take i).flatten ++ xs.take j).length ≤ 5000 by rw [List.length_append, List.length_take]; omega) (by decide), hN2 _ ⟨some (.val d), ?_⟩⟩
        rw [List.append_assoc, ← e2]
        all_goals first | rfl | trivial
end
end K38
namespace K38
open PySem PySem.Spec L2 DL
section
variable {P : Program} {w : World} {K : PySem.W.Frag} {mg : Str → Option Value} {base : Heap} {A : TxA}
local macro_rules | `(tactic| trivial) => `(tactic| simp -dsimp only [↓W_lst, ↓W_lst1, ↓W_isS, ↓W_bt, ↓W_bc, ↓W_bz, ↓W_asgG, ↓W_valK, ↓W_rg2, ↓W_rg2k, ↓W_lc2, ↓W_ltD, ↓List.zip_cons_cons, ↓List.zip_nil_left, ↓W_lent, ↓W_lent1, ↓W_lent2, ↓W_lent3, ↓W_lent4, ↓W_mulL, ↓W_var, ↓W_var1, ↓W_var2, ↓W_var3, ↓W_c, ↓W_frz, ↓W_frz1, ↓W_frz2, ↓W_frz3, ↓W_frz4, ↓W_op, ↓W_call, ↓W_fn, ↓W_fn0, ↓W_fnK, ↓W_nil, ↓W_cons, ↓W_add1, ↓W_add2, ↓W_add3, ↓W_add4, ↓W_add5, ↓W_add6, ↓W_add7, ↓W_int, ↓W_int0, ↓W_mul1, ↓W_mul2, ↓W_eq1, ↓W_eq2, ↓W_eq3, ↓W_eq4, ↓W_ne1, ↓W_ne2, ↓W_ne3, ↓W_in1, ↓W_in2, ↓W_in3, ↓W_in4, ↓W_in5, ↓W_is1, ↓W_is2, ↓W_at, ↓W_atS, ↓W_ix1, ↓W_ix2, ↓W_ix3, ↓W_ix4, ↓W_sl, ↓W_on, ↓W_os, ↓W_part, ↓W_sl1, ↓W_sl2, ↓W_sl3, ↓W_sl4, ↓W_len1, ↓W_len2, ↓W_len3, ↓W_len4, ↓W_abs, ↓W_intf, ↓W_strf, ↓W_list1, ↓W_list2, ↓W_list3, ↓W_tup1, ↓W_tup2, ↓W_tup3, ↓W_max, ↓W_min, ↓W_allK, ↓W_all1, ↓W_isi1, ↓W_isi2, ↓W_k_ns, ↓W_k_bs, ↓W_k_is, ↓W_k_ss, ↓W_k_ts, ↓W_k_ls, ↓W_k_nb, ↓W_k_bb, ↓W_k_ib, ↓W_k_sb, ↓W_k_tb, ↓W_k_lb, ↓W_k_ni, ↓W_k_bi, ↓W_k_ii, ↓W_k_si, ↓W_k_ti, ↓W_k_li, ↓W_k_nt, ↓W_k_bt, ↓W_k_it, ↓W_k_st, ↓W_k_tt, ↓W_k_lt, ↓W_k_nl, ↓W_k_bl, ↓W_k_il, ↓W_k_sl, ↓W_k_tl, ↓W_k_ll, ↓W_valsK, ↓W_etup, ↓W_elst, ↓W_vals0, ↓W_vals1, ↓W_bool, ↓W_bool1, ↓W_tand, ↓W_tor, ↓W_tnot, ↓W_tru, ↓W_tru1, ↓W_tru2, ↓W_tru3, ↓W_tru4, ↓W_tru5, ↓W_tru6, ↓W_tru7, ↓W_bo, ↓W_eand, ↓W_eor, ↓W_enot, ↓W_ink, ↓W_eneg, ↓W_snil, ↓W_seq, ↓W_asg, ↓W_asg1, ↓W_asg2, ↓W_asg3, ↓W_ret, ↓W_hand1, ↓W_hand2, ↓W_hand3, ↓W_hand4, ↓W_expr, ↓W_if, ↓W_for, ↓W_any, ↓W_it1, ↓W_it2, ↓W_it3, ↓W_rg1, ↓W_lc, ↓W_bn, ↓W_yes, ↓W_ownK, ↓W_mut, ↓W_app, ↓W_ins, ↓W_setK, ↓W_stK, ↓W_setIx, ↓W_strK, ↓W_upper, ↓W_join1, ↓W_start, ↓W_slot1, ↓W_slot2, ↓W_arg1, ↓W_arg2, ↓W_sFrz, ↓W_strb, ↓W_sortK, ↓W_sorted1, ↓W_sorted2, ↓W_sorted3, ↓W_loan, ↓W_lent1, ↓W_lent2, ↓W_lent3, ↓W_lent4, ↓W_lent, ↓W_lfR1, ↓W_lfR2, ↓W_clear, ↓W_reverse, ↓W_extend1, ↓W_extend2, ↓W_intfb, ↓W_sidx, ↓W_raiseK, ↓W_raise, ↓W_try, ↓W_isPK, ↓W_fld, ↓W_errK, ↓W_errO, ↓W_cut, ↓W_startL, ↓W_rev3, ↓W_lrev, ↓W_revK1, ↓W_revK2, ↓W_rev2, ↓W_keepL, ↓W_mk, ↓W_mkKw, ↓W_ini0, ↓W_ini1, ↓W_ini2, ↓W_blK, ↓W_lnK, ↓W_lbK, ↓W_inO, ↓W_lenO, ↓W_boolO, ↓W_eqA, ↓W_isO, ↓W_prop, ↓W_prK, ↓W_itO, ↓W_lcX, ↓W_inD1, ↓W_inD2, ↓W_inD3, ↓W_en, ↓W_en1, ↓W_en2, ↓W_bt, ↓W_bc, ↓W_bz, ↓W_chK, ↓W_chain, ↓W_startO, ↓W_slotO1, ↓W_slotO2, ↓W_slotO3, ↓W_tKeep, ↓W_tOrE, ↓W_tAndE, ↓W_tNotE, ↓W_ifE, ↓W_anyI, ↓W_anyK, ↓W_meth, ↓W_mtK, ↓W_meth0, ↓W_mt0K, ↓W_methK, ↓W_mtkK, ↓W_bare0, ↓W_bare1, ↓W_trev, ↓W_trK, ↓W_obj, ↓W_mkK, ↓W_sortedD1, ↓W_sortedD2, ↓W_sortedD3, ↓W_raise2, ↓W_raiseK2, ↓W_setOf1, ↓W_setOf2, ↓W_setOf3, ↓W_sc, endsD, endsTry, wipeE, List.foldr_cons, List.foldr_nil, List.length_cons, List.length_nil, List.map_cons, List.map_nil, List.cons_append, List.nil_append, List.append_nil, List.replicate, List.getElem?_cons_zero, List.getElem?_cons_succ, List.getElem?_nil, List.set_cons_zero, List.set_cons_succ, Nat.reduceAdd, Nat.reduceSub, Nat.zero_add, if_true, if_false, Bool.false_eq_true, Bool.not_true, Bool.not_false, true_and, and_true, List.forall_mem_cons, List.mem_cons, List.not_mem_nil, or_false, forall_eq_or_imp, forall_eq, false_and, and_false, implies_true, false_or, Option.map_some, Option.map_none, ite_self, Bool.and_true, Bool.true_and, Bool.and_false, Bool.false_and, List.forall_mem_nil, decide_true, decide_false, isNonD, signsD, lf, lfL, eq_self])
abbrev sp__law_islot : FD := islotF
theorem mono__law_islot : MonoF sp__law_islot := mono_islotF
theorem ok__law_islot (T : Tx K mg A) : FnOk P w K mg base (L2N.CX P w) 1 A.a__law_islot A.f__law_islot ["value", "names"] (spD K 2 sp__law_islot) := by
  refine fn_okD T.F__law_islot sc__law_islot (by decide) (fun cdv A0 outer s H E g hK hr cy => ?_)
  refine ⟨_, _, (dss_cons (ds_if (DW.dt (dw_or (dt_not (dt_tru cy (de_isi cy (by rfl) T.m_isinstance (da_cons (de_var 0) (da_cons (de_ty (n := "tuple") (by rfl) T.m_tuple (by decide +kernel)) da_nil))))) (dw_or1 (dt_eq cy (de_len cy (by rfl) T.m_len (de_var 0)) de_int)))) (dss_one (ds_ret de_bl)) dss_nil)
    (dss_cons (ds_for cy (di_range1 (by rfl) T.m_range (da_cons (de_len cy (by rfl) T.m_len (de_var 0)) da_nil)) (dg_name 2 sc__law_islot.nd) (dss_cons (ds_if (DW.dt (dw_or (dt_not (dt_tru cy (de_isi cy (by rfl) T.m_isinstance (da_cons (de_item cy (de_var 0) (de_var 2)) (da_cons (de_ty (n := "str") (by rfl) T.m_str (by decide +kernel)) da_nil))))) (dw_or1 (dt_notin cy (de_item cy (de_var 0) (de_var 2)) (de_var 1))))) (dss_one (ds_ret de_bl)) dss_nil)
    (dss_one (ds_if (DW.dt (dw_and (dt_gt cy (de_var 2) de_int) (dw_and1 (dt_not (dt_ltD cy (de_item cy (de_var 0) (de_sub cy (de_var 2) de_int)) (de_item cy (de_var 0) (de_var 2))))))) (dss_one (ds_ret de_bl)) dss_nil))))
    (dss_one (ds_ret de_bl)))), fun rs Q Ex hlen h => ?_⟩
  obtain ⟨l, n, rfl, l0, hn, ln, hs, h⟩ := h
  have ok := (sub_of hs hn).set
  have ll := hs.length_le
  trivial
  rw [List.length_map]
  refine iteB (fun c => absurd (of_decide_eq_true c) (fun z => l0 (List.length_eq_zero_iff.mp (by omega)))) (fun _ => ?_)
  refine ⟨by omega, by omega, nn_of (by rw [range_len]; omega), ?_⟩
  refine forW_inv (fun i env => ∃ z : Option SV, env = [some (.val (tupS l)), some (.val (.lst (n.map D.str))), z]) (fun i d env N hi ⟨z, e⟩ hN => ?S1) (fun env ⟨z, e⟩ => ?T1) _ ⟨_, rfl⟩
  case S1 =>
    subst e
    obtain ⟨hj, rfl⟩ := range_at hi
    rw [Int.toNat_natCast] at hj
    have hx : (l.map D.str)[i]? = some (.str l[i]) := by rw [List.getElem?_map, List.getElem?_eq_getElem hj]; rfl
    have ez : (0 : Int) + (i : Int) = ((i : Nat) : Int) := by omega
    rw [ez]
    have nm : isNameS l[i] = true := ok.1.1 _ (List.getElem_mem hj)
    trivial
    refine atK_at hx ?_
    trivial
    refine atK_at hx ?_
    trivial
    refine in_strs ?_
    rw [if_pos rfl, decide_eq_false (fun z => z (hs.subset (List.getElem_mem hj)))]
    trivial
    refine iteB (fun c => ?_) (fun c => hN _ ⟨_, rfl⟩)
    have c := of_decide_eq_true c
    obtain ⟨j, rfl⟩ : ∃ j, i = j + 1 := ⟨i - 1, by omega⟩
    have hy : (l.map D.str)[j]? = some (.str l[j]) := by rw [List.getElem?_map, List.getElem?_eq_getElem (by omega)]; rfl
    have ej : (((j + 1 : Nat) : Int)) - 1 = ((j : Nat) : Int) := by omega
    rw [ej]
    refine atK_at hy ?_
    trivial
    refine atK_at hx ?_
    trivial
    refine lt_strs ?_
    rw [set_strict ok (List.getElem?_eq_getElem (by omega)) (List.getElem?_eq_getElem hj)]
    trivial
    exact hN _ ⟨_, rfl⟩
  case T1 =>
    subst e
    trivial
    exact h
abbrev sp__law_islots : FD := islotsF
theorem mono__law_islots : MonoF sp__law_islots := mono_islotsF
theorem ok__law_islots (T : Tx K mg A) : FnOk P w K mg base (L2N.CX P w) 2 A.a__law_islots A.f__law_islots ["value", "names"] (spD K 2 sp__law_islots) := by
  refine fn_okD T.F__law_islots sc__law_islots (by decide) (fun cdv A0 outer s H E g hK hr cy => ?_)
  refine ⟨_, _, (dss_cons (ds_if (DW.dt (dw_or (dt_not (dt_tru cy (de_isi cy (by rfl) T.m_isinstance (da_cons (de_var 0) (da_cons (de_ty (n := "tuple") (by rfl) T.m_tuple (by decide +kernel)) da_nil))))) (dw_or1 (dt_ne cy (de_len cy (by rfl) T.m_len (de_var 0)) de_int)))) (dss_one (ds_ret de_bl)) dss_nil)
    (dss_cons (ds_for cy (di_range1 (by rfl) T.m_range (da_cons de_int da_nil)) (dg_name 2 sc__law_islots.nd) (dss_cons (ds_if (dt_not (dt_tru cy (de_call cy (ok__law_islot T) mono__law_islot (hr.mono (by decide)) (by rfl) T.m__law_islot T.F__law_islot.kp T.b__law_islot (da_cons (de_item cy (de_var 0) (de_var 2)) (da_cons (de_var 1) da_nil))))) (dss_one (ds_ret de_bl)) dss_nil)
    (dss_one (ds_if (DW.dt (dw_and (dt_gt cy (de_var 2) de_int) (dw_and1 (dt_not (dt_ltD cy (de_item cy (de_var 0) (de_sub cy (de_var 2) de_int)) (de_item cy (de_var 0) (de_var 2))))))) (dss_one (ds_ret de_bl)) dss_nil))))
    (dss_one (ds_ret (de_eq cy (de_sorted cy (by rfl) T.m_sorted (de_call cy (ok__law_flat T) mono__law_flat (hr.mono (by decide)) (by rfl) T.m__law_flat T.F__law_flat.kp T.b__law_flat (da_cons (de_var 0) da_nil))) (de_listf cy (by rfl) T.m_list (de_var 1))))))), fun rs Q Ex hlen h => ?_⟩
  obtain ⟨n, p, rfl, hn, ln, hp, few, h⟩ := h
  have psr := hp.srt
  have pnd := hp.nd
  trivial
  rw [List.length_map]
  refine iteB (fun c => absurd c (by rw [few]; decide)) (fun _ => ?_)
  refine ⟨by decide, by decide, nn_of (by decide), ?_⟩
  refine forW_inv (fun i env => ∃ z : Option SV, env = [some (.val (tupsD p)), some (.val (.lst (n.map D.str))), z]) (fun i d env N hi ⟨z, e⟩ hN => ?S1) (fun env ⟨z, e⟩ => ?T1) _ ⟨_, rfl⟩
  case S1 =>
    subst e
    obtain ⟨hj, rfl⟩ := range_at hi
    have hj : i < 4 := hj
    obtain ⟨m, em⟩ : ∃ m, p[i]? = some m := ⟨_, List.getElem?_eq_getElem (by omega)⟩
    have mm := List.mem_of_getElem? em
    have hx : (rowsD p)[i]? = some (tupS m) := by rw [List.getElem?_map, em]; rfl
    have ez : (0 : Int) + (i : Int) = ((i : Nat) : Int) := by omega
    rw [ez]
    obtain ⟨ne, sm⟩ := hp.sub m mm
    trivial
    refine atK_at hx ?_
    trivial
    refine islot_of ne hn ln sm ?_
    trivial
    refine iteB (fun c => ?_) (fun c => hN _ ⟨_, rfl⟩)
    have c := of_decide_eq_true c
    obtain ⟨j, rfl⟩ : ∃ j, i = j + 1 := ⟨i - 1, by omega⟩
    obtain ⟨m0, em0⟩ : ∃ m0, p[j]? = some m0 := ⟨_, List.getElem?_eq_getElem (by omega)⟩
    have hy : (rowsD p)[j]? = some (tupS m0) := by rw [List.getElem?_map, em0]; rfl
    have ej : (((j + 1 : Nat) : Int)) - 1 = ((j : Nat) : Int) := by omega
    rw [ej]
    refine atK_at hy ?_
    trivial
    refine atK_at hx ?_
    trivial
    refine lt_tups ?_
    rw [rows_strict psr pnd em0 em]
    trivial
    exact hN _ ⟨_, rfl⟩
  case T1 =>
    subst e
    trivial
    have ef : (p.map fun l => l.map D.str).flatten = p.flatten.map D.str := by rw [← List.map_flatten]
    refine lflat_of (xss := p.map fun l => l.map D.str) (show some _ = some _ by rw [List.map_map]; rfl) (by rw [List.length_map]; omega) (fun xs m => ?_) (by rw [ef, List.length_map, hp.flat.length_eq]; omega) ?_
    · obtain ⟨l, ml, rfl⟩ := List.mem_map.mp m
      have := (hp.sub l ml).2.length_le
      rw [List.length_map]
      omega
    · rw [ef]
      trivial
      rw [strsOf_map]
      trivial
      rw [sortS_eq hp.flat, hn.2]
      refine ⟨lim_of (by rw [hp.flat.length_eq]; omega), eq_lstd (n := 2) (fun x m => ?_) (fun x m => ?_) (by decide) fun c hc => ?_⟩
      · obtain ⟨s, ms, rfl⟩ := List.mem_map.mp m
        exact names_v hn.1.1 s ms
      · obtain ⟨s, ms, rfl⟩ := List.mem_map.mp m
        exact names_v hn.1.1 s ms
      · obtain rfl : c = true := hc.mpr rfl
        exact h
abbrev sp__law_isall : FD := isallF
theorem mono__law_isall : MonoF sp__law_isall := mono_isallF
theorem ok__law_isall (T : Tx K mg A) : FnOk P w K mg base (L2N.CX P w) 3 A.a__law_isall A.f__law_isall ["rows", "names"] (spD K 2 sp__law_isall) := by
  refine fn_okD T.F__law_isall sc__law_isall (by decide) (fun cdv A0 outer s H E g hK hr cy => ?_)
  refine ⟨_, _, (dss_cons (ds_if (DW.dt (dw_or (dt_not (dt_tru cy (de_isi cy (by rfl) T.m_isinstance (da_cons (de_var 0) (da_cons (de_ty (n := "tuple") (by rfl) T.m_tuple (by decide +kernel)) da_nil))))) (dw_or1 (dt_ne cy (de_len cy (by rfl) T.m_len (de_var 0)) (de_call cy (ok__law_many T) mono__law_many (hr.mono (by decide)) (by rfl) T.m__law_many T.F__law_many.kp T.b__law_many (da_cons (de_len cy (by rfl) T.m_len (de_var 1)) da_nil)))))) (dss_one (ds_ret de_bl)) dss_nil)
    (dss_cons (ds_for cy (di_range1 (by rfl) T.m_range (da_cons (de_len cy (by rfl) T.m_len (de_var 0)) da_nil)) (dg_name 2 sc__law_isall.nd) (dss_cons (ds_if (dt_not (dt_tru cy (de_call cy (ok__law_islots T) mono__law_islots (hr.mono (by decide)) (by rfl) T.m__law_islots T.F__law_islots.kp T.b__law_islots (da_cons (de_item cy (de_var 0) (de_var 2)) (da_cons (de_var 1) da_nil))))) (dss_one (ds_ret de_bl)) dss_nil)
    (dss_one (ds_if (DW.dt (dw_and (dt_gt cy (de_var 2) de_int) (dw_and1 (dt_not (dt_ltD cy (de_item cy (de_var 0) (de_sub cy (de_var 2) de_int)) (de_item cy (de_var 0) (de_var 2))))))) (dss_one (ds_ret de_bl)) dss_nil))))
    (dss_one (ds_ret de_bl)))), fun rs Q Ex hlen h => ?_⟩
  obtain ⟨n, rfl, hn, ln, h⟩ := h
  have lr : (divL n 4).length ≤ 715 := by
    rw [divL_len hn]
    have := stir_few _ ln
    omega
  trivial
  rw [List.length_map, List.length_map]
  refine many_of (by omega) ?_
  trivial
  rw [divL_len hn]
  have psr := divL_pw n 4
  have pnd := divL_nodup hn 4
  refine iteB (fun c => absurd c (by simp)) (fun _ => ?_)
  rw [List.length_map]
  refine ⟨by omega, by omega, nn_of (by rw [range_len]; omega), ?_⟩
  refine forW_inv (fun i env => ∃ z : Option SV, env = [some (.val (tupssD (divL n 4))), some (.val (.lst (n.map D.str))), z]) (fun i d env N hi ⟨z, e⟩ hN => ?S1) (fun env ⟨z, e⟩ => ?T1) _ ⟨_, rfl⟩
  case S1 =>
    subst e
    obtain ⟨hj, rfl⟩ := range_at hi
    rw [Int.toNat_natCast] at hj
    obtain ⟨m, em⟩ : ∃ m, (divL n 4)[i]? = some m := ⟨_, List.getElem?_eq_getElem hj⟩
    have mm := List.mem_of_getElem? em
    have hx : ((divL n 4).map tupsD)[i]? = some (tupsD m) := by rw [List.getElem?_map, em]; rfl
    have ez : (0 : Int) + (i : Int) = ((i : Nat) : Int) := by omega
    rw [ez]
    obtain ⟨lo, fo⟩ := divL_mem hn mm
    trivial
    refine atK_at hx ?_
    trivial
    refine islots_of hn (by omega) lo fo ?_
    trivial
    refine iteB (fun c => ?_) (fun c => hN _ ⟨_, rfl⟩)
    have c := of_decide_eq_true c
    obtain ⟨j, rfl⟩ : ∃ j, i = j + 1 := ⟨i - 1, by omega⟩
    obtain ⟨m0, em0⟩ : ∃ m0, (divL n 4)[j]? = some m0 := ⟨_, List.getElem?_eq_getElem (by omega)⟩
    have hy : ((divL n 4).map tupsD)[j]? = some (tupsD m0) := by rw [List.getElem?_map, em0]; rfl
    have ej : (((j + 1 : Nat) : Int)) - 1 = ((j : Nat) : Int) := by omega
    rw [ej]
    refine atK_at hy ?_
    trivial
    refine atK_at hx ?_
    trivial
    refine lt_tupss ?_
    rw [strictP psr pnd em0 em]
    trivial
    exact hN _ ⟨_, rfl⟩
  case T1 =>
    subst e
    trivial
    exact h
end
end K38
namespace K38
open PySem PySem.Spec L2 DL
section
variable {P : Program} {w : World} {K : PySem.W.Frag} {mg : Str → Option Value} {base : Heap} {A : TxA}
local macro_rules | `(tactic| trivial) => `(tactic| simp -dsimp only [↓W_lst, ↓W_lst1, ↓W_isS, ↓W_bt, ↓W_bc, ↓W_bz, ↓W_asgG, ↓W_valK, ↓W_rg2, ↓W_rg2k, ↓W_lc2, ↓W_ltD, ↓List.zip_cons_cons, ↓List.zip_nil_left, ↓W_lent, ↓W_lent1, ↓W_lent2, ↓W_lent3, ↓W_lent4, ↓W_mulL, ↓W_var, ↓W_var1, ↓W_var2, ↓W_var3, ↓W_c, ↓W_frz, ↓W_frz1, ↓W_frz2, ↓W_frz3, ↓W_frz4, ↓W_op, ↓W_call, ↓W_fn, ↓W_fn0, ↓W_fnK, ↓W_nil, ↓W_cons, ↓W_add1, ↓W_add2, ↓W_add3, ↓W_add4, ↓W_add5, ↓W_add6, ↓W_add7, ↓W_int, ↓W_int0, ↓W_mul1, ↓W_mul2, ↓W_eq1, ↓W_eq2, ↓W_eq3, ↓W_eq4, ↓W_ne1, ↓W_ne2, ↓W_ne3, ↓W_in1, ↓W_in2, ↓W_in3, ↓W_in4, ↓W_in5, ↓W_is1, ↓W_is2, ↓W_at, ↓W_atS, ↓W_ix1, ↓W_ix2, ↓W_ix3, ↓W_ix4, ↓W_sl, ↓W_on, ↓W_os, ↓W_part, ↓W_sl1, ↓W_sl2, ↓W_sl3, ↓W_sl4, ↓W_len1, ↓W_len2, ↓W_len3, ↓W_len4, ↓W_abs, ↓W_intf, ↓W_strf, ↓W_list1, ↓W_list2, ↓W_list3, ↓W_tup1, ↓W_tup2, ↓W_tup3, ↓W_max, ↓W_min, ↓W_allK, ↓W_all1, ↓W_isi1, ↓W_isi2, ↓W_k_ns, ↓W_k_bs, ↓W_k_is, ↓W_k_ss, ↓W_k_ts, ↓W_k_ls, ↓W_k_nb, ↓W_k_bb, ↓W_k_ib, ↓W_k_sb, ↓W_k_tb, ↓W_k_lb, ↓W_k_ni, ↓W_k_bi, ↓W_k_ii, ↓W_k_si, ↓W_k_ti, ↓W_k_li, ↓W_k_nt, ↓W_k_bt, ↓W_k_it, ↓W_k_st, ↓W_k_tt, ↓W_k_lt, ↓W_k_nl, ↓W_k_bl, ↓W_k_il, ↓W_k_sl, ↓W_k_tl, ↓W_k_ll, ↓W_valsK, ↓W_etup, ↓W_elst, ↓W_vals0, ↓W_vals1, ↓W_bool, ↓W_bool1, ↓W_tand, ↓W_tor, ↓W_tnot, ↓W_tru, ↓W_tru1, ↓W_tru2, ↓W_tru3, ↓W_tru4, ↓W_tru5, ↓W_tru6, ↓W_tru7, ↓W_bo, ↓W_eand, ↓W_eor, ↓W_enot, ↓W_ink, ↓W_eneg, ↓W_snil, ↓W_seq, ↓W_asg, ↓W_asg1, ↓W_asg2, ↓W_asg3, ↓W_ret, ↓W_hand1, ↓W_hand2, ↓W_hand3, ↓W_hand4, ↓W_expr, ↓W_if, ↓W_for, ↓W_any, ↓W_it1, ↓W_it2, ↓W_it3, ↓W_rg1, ↓W_lc, ↓W_bn, ↓W_yes, ↓W_ownK, ↓W_mut, ↓W_app, ↓W_ins, ↓W_setK, ↓W_stK, ↓W_setIx, ↓W_strK, ↓W_upper, ↓W_join1, ↓W_start, ↓W_slot1, ↓W_slot2, ↓W_arg1, ↓W_arg2, ↓W_sFrz, ↓W_strb, ↓W_sortK, ↓W_sorted1, ↓W_sorted2, ↓W_sorted3, ↓W_loan, ↓W_lent1, ↓W_lent2, ↓W_lent3, ↓W_lent4, ↓W_lent, ↓W_lfR1, ↓W_lfR2, ↓W_clear, ↓W_reverse, ↓W_extend1, ↓W_extend2, ↓W_intfb, ↓W_sidx, ↓W_raiseK, ↓W_raise, ↓W_try, ↓W_isPK, ↓W_fld, ↓W_errK, ↓W_errO, ↓W_cut, ↓W_startL, ↓W_rev3, ↓W_lrev, ↓W_revK1, ↓W_revK2, ↓W_rev2, ↓W_keepL, ↓W_mk, ↓W_mkKw, ↓W_ini0, ↓W_ini1, ↓W_ini2, ↓W_blK, ↓W_lnK, ↓W_lbK, ↓W_inO, ↓W_lenO, ↓W_boolO, ↓W_eqA, ↓W_isO, ↓W_prop, ↓W_prK, ↓W_itO, ↓W_lcX, ↓W_inD1, ↓W_inD2, ↓W_inD3, ↓W_en, ↓W_en1, ↓W_en2, ↓W_bt, ↓W_bc, ↓W_bz, ↓W_chK, ↓W_chain, ↓W_startO, ↓W_slotO1, ↓W_slotO2, ↓W_slotO3, ↓W_tKeep, ↓W_tOrE, ↓W_tAndE, ↓W_tNotE, ↓W_ifE, ↓W_anyI, ↓W_anyK, ↓W_meth, ↓W_mtK, ↓W_meth0, ↓W_mt0K, ↓W_methK, ↓W_mtkK, ↓W_bare0, ↓W_bare1, ↓W_trev, ↓W_trK, ↓W_obj, ↓W_mkK, ↓W_sortedD1, ↓W_sortedD2, ↓W_sortedD3, ↓W_raise2, ↓W_raiseK2, ↓W_setOf1, ↓W_setOf2, ↓W_setOf3, ↓W_sc, endsD, endsTry, wipeE, List.foldr_cons, List.foldr_nil, List.length_cons, List.length_nil, List.map_cons, List.map_nil, List.cons_append, List.nil_append, List.append_nil, List.replicate, List.getElem?_cons_zero, List.getElem?_cons_succ, List.getElem?_nil, List.set_cons_zero, List.set_cons_succ, Nat.reduceAdd, Nat.reduceSub, Nat.zero_add, if_true, if_false, Bool.false_eq_true, Bool.not_true, Bool.not_false, true_and, and_true, List.forall_mem_cons, List.mem_cons, List.not_mem_nil, or_false, forall_eq_or_imp, forall_eq, false_and, and_false, implies_true, false_or, Option.map_some, Option.map_none, ite_self, Bool.and_true, Bool.true_and, Bool.and_false, Bool.false_and, List.forall_mem_nil, decide_true, decide_false, isNonD, signsD, lf, lfL, eq_self])
abbrev sp__law_answer : FD := answerF
theorem mono__law_answer : MonoF sp__law_answer := mono_answerF
theorem ok__law_answer (T : Tx K mg A) : FnOk P w K mg base (L2N.CX P w) 6 A.a__law_answer A.f__law_answer ["items"] (spD K 1 sp__law_answer) := by
  refine fn_okD T.F__law_answer sc__law_answer (by decide) (fun cdv A0 outer s H E g hK hr cy => ?_)
  refine ⟨_, _, (dss_one (ds_try cy rfl rfl sc__law_answer.nd (i := 1) (by rfl) (by rfl) ⟨by rfl, by decide, .inl T.m_FourmetError⟩ (fun _ _ _ cy => (dss_one (ds_ret (de_tup (da_cons de_str (da_cons (de_call cy (ok_all_partings T) mono_all_partings (hr.mono (by decide)) (by rfl) T.m_all_partings T.F_all_partings.kp T.b_all_partings (da_cons (de_var 0) da_nil)) da_nil))))))
    (fun aE oE zE dE _ _ hK2 hX hz hv cy => (dss_one (ds_ret (de_callHp (pe := (aE, oE)) (z := zE) cy (okH__law_told T (ea := aE) (eo := oE) (err_of hz hv)) mono__law_told (roomH_suite (hr.mono (by decide))) (hot_suite hz hv) List.mem_cons_self hX (by rfl) T.m__law_told T.F__law_told.kp T.b__law_told (da_cons (de_var 1) da_nil))))) (fun _ _ => by repeat' (first | exact mono_refF | exact mono_aNil | exact mono_eVar | exact mono_eC | exact mono_sNil | exact mono_appQ | exact mono_isNlQ | exact mono_sameF _ | exact mono__law_same _ | refine mono_sRet ?_ | refine mono_sExpr ?_ | refine mono_sMut ?_ ?_ | refine mono_eTup ?_ | refine mono_aCons ?_ ?_ | refine mono_eFn ?_ ?_ | refine mono_eand ?_ ?_ | refine mono_op ?_ ?_ ?_ | refine mono_frz ?_)))), fun rs Q Ex hlen h => ?_⟩
  obtain ⟨d, ds, rfl, hd, hf, h⟩ := h
  have fr := @allp_err ds
  revert h
  cases hx : allpDue ds with
  | none =>
    intro h
    trivial
    refine allp_of hd hf ?_
    rw [hx]
    simp only [toldK]
    trivial
    exact ⟨lim_of (by decide), h⟩
  | some e =>
    intro h
    have fe := fr hx
    trivial
    refine allp_of hd hf ?_
    rw [hx]
    simp only [toldK]
    have hk : e.k ∈ kinds := by rcases fe.1 with q | q | q <;> rw [q] <;> decide
    refine try_of (T.exm hk) fun ad => ?_
    trivial
    refine ref_of hk fe.2 ?_
    trivial
    exact h
abbrev sp__law_counted : FD := countedF
theorem mono__law_counted : MonoF sp__law_counted := mono_countedF
theorem ok__law_counted (T : Tx K mg A) : FnOk P w K mg base (L2N.CX P w) 6 A.a__law_counted A.f__law_counted ["number"] (spD K 1 sp__law_counted) := by
  refine fn_okD T.F__law_counted sc__law_counted (by decide) (fun cdv A0 outer s H E g hK hr cy => ?_)
  refine ⟨_, _, (dss_one (ds_try cy rfl rfl sc__law_counted.nd (i := 1) (by rfl) (by rfl) ⟨by rfl, by decide, .inl T.m_FourmetError⟩ (fun _ _ _ cy => (dss_one (ds_ret (de_tup (da_cons de_str (da_cons (de_call cy (ok_count_partings T) mono_count_partings (hr.mono (by decide)) (by rfl) T.m_count_partings T.F_count_partings.kp T.b_count_partings (da_cons (de_var 0) da_nil)) da_nil))))))
    (fun aE oE zE dE _ _ hK2 hX hz hv cy => (dss_one (ds_ret (de_callHp (pe := (aE, oE)) (z := zE) cy (okH__law_told T (ea := aE) (eo := oE) (err_of hz hv)) mono__law_told (roomH_suite (hr.mono (by decide))) (hot_suite hz hv) List.mem_cons_self hX (by rfl) T.m__law_told T.F__law_told.kp T.b__law_told (da_cons (de_var 1) da_nil))))) (fun _ _ => by repeat' (first | exact mono_refF | exact mono_aNil | exact mono_eVar | exact mono_eC | exact mono_sNil | exact mono_appQ | exact mono_isNlQ | exact mono_sameF _ | exact mono__law_same _ | refine mono_sRet ?_ | refine mono_sExpr ?_ | refine mono_sMut ?_ ?_ | refine mono_eTup ?_ | refine mono_aCons ?_ ?_ | refine mono_eFn ?_ ?_ | refine mono_eand ?_ ?_ | refine mono_op ?_ ?_ ?_ | refine mono_frz ?_)))), fun rs Q Ex hlen h => ?_⟩
  obtain ⟨d, rfl, hf, h1, h2⟩ := h
  cases hx : numDue 0 12 d with
  | none =>
    obtain ⟨k, rfl, lk⟩ := num_nat hx
    have h := h2 k rfl (by omega)
    trivial
    refine cntp_of hf ?_
    rw [hx]
    simp only [toldK]
    intro k' e' lk'
    obtain rfl : k = k' := by injection e' with e'; omega
    trivial
    exact ⟨lim_of (by decide), h⟩
  | some e =>
    have h := h1 e hx
    obtain rfl := numDue_some hx
    trivial
    refine cntp_of hf ?_
    rw [hx]
    simp only [toldK]
    have hk : EK.badNumber ∈ kinds := by decide
    refine try_of (T.exm hk) fun ad => ?_
    trivial
    refine ref_of hk rfl ?_
    trivial
    exact h
end
end K38
namespace K38
open PySem PySem.Spec L2 DL
section
variable {P : Program} {w : World} {K : PySem.W.Frag} {mg : Str → Option Value} {base : Heap} {A : TxA}
local macro_rules | `(tactic| trivial) => `(tactic| simp -dsimp only [↓W_lst, ↓W_lst1, ↓W_isS, ↓W_bt, ↓W_bc, ↓W_bz, ↓W_asgG, ↓W_valK, ↓W_rg2, ↓W_rg2k, ↓W_lc2, ↓W_ltD, ↓List.zip_cons_cons, ↓List.zip_nil_left, ↓W_lent, ↓W_lent1, ↓W_lent2, ↓W_lent3, ↓W_lent4, ↓W_mulL, ↓W_var, ↓W_var1, ↓W_var2, ↓W_var3, ↓W_c, ↓W_frz, ↓W_frz1, ↓W_frz2, ↓W_frz3, ↓W_frz4, ↓W_op, ↓W_call, ↓W_fn, ↓W_fn0, ↓W_fnK, ↓W_nil, ↓W_cons, ↓W_add1, ↓W_add2, ↓W_add3, ↓W_add4, ↓W_add5, ↓W_add6, ↓W_add7, ↓W_int, ↓W_int0, ↓W_mul1, ↓W_mul2, ↓W_eq1, ↓W_eq2, ↓W_eq3, ↓W_eq4, ↓W_ne1, ↓W_ne2, ↓W_ne3, ↓W_in1, ↓W_in2, ↓W_in3, ↓W_in4, ↓W_in5, ↓W_is1, ↓W_is2, ↓W_at, ↓W_atS, ↓W_ix1, ↓W_ix2, ↓W_ix3, ↓W_ix4, ↓W_sl, ↓W_on, ↓W_os, ↓W_part, ↓W_sl1, ↓W_sl2, ↓W_sl3, ↓W_sl4, ↓W_len1, ↓W_len2, ↓W_len3, ↓W_len4, ↓W_abs, ↓W_intf, ↓W_strf, ↓W_list1, ↓W_list2, ↓W_list3, ↓W_tup1, ↓W_tup2, ↓W_tup3, ↓W_max, ↓W_min, ↓W_allK, ↓W_all1, ↓W_isi1, ↓W_isi2, ↓W_k_ns, ↓W_k_bs, ↓W_k_is, ↓W_k_ss, ↓W_k_ts, ↓W_k_ls, ↓W_k_nb, ↓W_k_bb, ↓W_k_ib, ↓W_k_sb, ↓W_k_tb, ↓W_k_lb, ↓W_k_ni, ↓W_k_bi, ↓W_k_ii, ↓W_k_si, ↓W_k_ti, ↓W_k_li, ↓W_k_nt, ↓W_k_bt, ↓W_k_it, ↓W_k_st, ↓W_k_tt, ↓W_k_lt, ↓W_k_nl, ↓W_k_bl, ↓W_k_il, ↓W_k_sl, ↓W_k_tl, ↓W_k_ll, ↓W_valsK, ↓W_etup, ↓W_elst, ↓W_vals0, ↓W_vals1, ↓W_bool, ↓W_bool1, ↓W_tand, ↓W_tor, ↓W_tnot, ↓W_tru, ↓W_tru1, ↓W_tru2, ↓W_tru3, ↓W_tru4, ↓W_tru5, ↓W_tru6, ↓W_tru7, ↓W_bo, ↓W_eand, ↓W_eor, ↓W_enot, ↓W_ink, ↓W_eneg, ↓W_snil, ↓W_seq, ↓W_asg, ↓W_asg1, ↓W_asg2, ↓W_asg3, ↓W_ret, ↓W_hand1, ↓W_hand2, ↓W_hand3, ↓W_hand4, ↓W_expr, ↓W_if, ↓W_for, ↓W_any, ↓W_it1, ↓W_it2, ↓W_it3, ↓W_rg1, ↓W_lc, ↓W_bn, ↓W_yes, ↓W_ownK, ↓W_mut, ↓W_app, ↓W_ins, ↓W_setK, ↓W_stK, ↓W_setIx, ↓W_strK, ↓W_upper, ↓W_join1, ↓W_start, ↓W_slot1, ↓W_slot2, ↓W_arg1, ↓W_arg2, ↓W_sFrz, ↓W_strb, ↓W_sortK, ↓W_sorted1, ↓W_sorted2, ↓W_sorted3, ↓W_loan, ↓W_lent1, ↓W_lent2, ↓W_lent3, ↓W_lent4, ↓W_lent, ↓W_lfR1, ↓W_lfR2, ↓W_clear, ↓W_reverse, ↓W_extend1, ↓W_extend2, ↓W_intfb, ↓W_sidx, ↓W_raiseK, ↓W_raise, ↓W_try, ↓W_isPK, ↓W_fld, ↓W_errK, ↓W_errO, ↓W_cut, ↓W_startL, ↓W_rev3, ↓W_lrev, ↓W_revK1, ↓W_revK2, ↓W_rev2, ↓W_keepL, ↓W_mk, ↓W_mkKw, ↓W_ini0, ↓W_ini1, ↓W_ini2, ↓W_blK, ↓W_lnK, ↓W_lbK, ↓W_inO, ↓W_lenO, ↓W_boolO, ↓W_eqA, ↓W_isO, ↓W_prop, ↓W_prK, ↓W_itO, ↓W_lcX, ↓W_inD1, ↓W_inD2, ↓W_inD3, ↓W_en, ↓W_en1, ↓W_en2, ↓W_bt, ↓W_bc, ↓W_bz, ↓W_chK, ↓W_chain, ↓W_startO, ↓W_slotO1, ↓W_slotO2, ↓W_slotO3, ↓W_tKeep, ↓W_tOrE, ↓W_tAndE, ↓W_tNotE, ↓W_ifE, ↓W_anyI, ↓W_anyK, ↓W_meth, ↓W_mtK, ↓W_meth0, ↓W_mt0K, ↓W_methK, ↓W_mtkK, ↓W_bare0, ↓W_bare1, ↓W_trev, ↓W_trK, ↓W_obj, ↓W_mkK, ↓W_sortedD1, ↓W_sortedD2, ↓W_sortedD3, ↓W_raise2, ↓W_raiseK2, ↓W_setOf1, ↓W_setOf2, ↓W_setOf3, ↓W_sc, endsD, endsTry, wipeE, List.foldr_cons, List.foldr_nil, List.length_cons, List.length_nil, List.map_cons, List.map_nil, List.cons_append, List.nil_append, List.append_nil, List.replicate, List.getElem?_cons_zero, List.getElem?_cons_succ, List.getElem?_nil, List.set_cons_zero, List.set_cons_succ, Nat.reduceAdd, Nat.reduceSub, Nat.zero_add, if_true, if_false, Bool.false_eq_true, Bool.not_true, Bool.not_false, true_and, and_true, List.forall_mem_cons, List.mem_cons, List.not_mem_nil, or_false, forall_eq_or_imp, forall_eq, false_and, and_false, implies_true, false_or, Option.map_some, Option.map_none, ite_self, Bool.and_true, Bool.true_and, Bool.and_false, Bool.false_and, List.forall_mem_nil, decide_true, decide_false, isNonD, signsD, lf, lfL, eq_self])
abbrev sp__law_namesdue : FD := namesdueF
theorem mono__law_namesdue : MonoF sp__law_namesdue := mono_namesdueF
theorem ok__law_namesdue (T : Tx K mg A) : FnOk P w K mg base (L2N.CX P w) 2 A.a__law_namesdue A.f__law_namesdue ["items"] (spD K 1 sp__law_namesdue) := by
  refine fn_okD T.F__law_namesdue sc__law_namesdue (by decide) (fun cdv A0 outer s H E g hK hr cy => ?_)
  refine ⟨_, _, (dss_cons (ds_for cy (di_any cy (de_var 0)) (dg_name 1 sc__law_namesdue.nd) (dss_one (ds_if (dt_not (dt_tru cy (de_call cy (ok__law_isname T) mono__law_isname (hr.mono (by decide)) (by rfl) T.m__law_isname T.F__law_isname.kp T.b__law_isname (da_cons (de_var 1) da_nil)))) (dss_one (ds_ret (de_tup (da_cons de_str (da_cons (de_var 1) da_nil))))) dss_nil)))
    (dss_cons (ds_for cy (di_range1 (by rfl) T.m_range (da_cons (de_len cy (by rfl) T.m_len (de_var 0)) da_nil)) (dg_name 2 sc__law_namesdue.nd) (dss_one (ds_if (dt_in cy (de_item cy (de_var 0) (de_var 2)) (de_slice cy (de_var 0) do_none (do_some (de_var 2)))) (dss_one (ds_ret (de_tup (da_cons de_str (da_cons (de_item cy (de_var 0) (de_var 2)) da_nil))))) dss_nil)))
    (dss_cons (ds_if (dt_gt cy (de_len cy (by rfl) T.m_len (de_var 0)) de_int) (dss_one (ds_ret (de_tup (da_cons de_str (da_cons de_int da_nil))))) dss_nil)
    (dss_one (ds_ret de_non))))), fun rs Q Ex hlen h => ?_⟩
  obtain ⟨d, ds, rfl, hd, hl, hf, h⟩ := h
  cases d <;> simp only [seqD, Option.some.injEq, reduceCtorEq] at hd <;> (have hd := hd.symm; subst hd)
  · trivial
    refine ⟨nn_of (by omega), forW_inv (fun i env => ∃ z y : Option SV, env = [some (.val (.tup ds)), z, y] ∧ ∀ (j : Nat) d, j < i → ds[j]? = some d → isNameD d = true) (fun i d env N hi ⟨z, y, e, hp⟩ hN => ?_) (fun env ⟨z, y, e, hp⟩ => ?_) _ ⟨_, _, rfl, fun j s hj => absurd hj (by omega)⟩⟩
    · subst e
      trivial
      refine isname_of (flat_ask (hf _ (List.mem_of_getElem? hi))) ?_
      cases hx : isNameD d
      · trivial
        refine ⟨lim_of (by decide), ?_⟩
        have e : namesDue ds = some ⟨.badName, [d]⟩ := by
          unfold namesDue badOf
          rw [find_at hi (p := fun d => !isNameD d) (by rw [hx]; rfl) fun j b hj hb => by rw [hp j b hj hb]; rfl]
        rw [e] at h
        exact h
      · trivial
        refine hN _ ⟨_, _, rfl, fun j t hj ht => ?_⟩
        by_cases q : j < i
        · exact hp j t q ht
        · have : j = i := by omega
          subst this
          rw [hi] at ht
          cases ht
          exact hx
    · subst e
      obtain ⟨ss, rfl, hs⟩ := all_names (ds := ds) fun e m => by
        obtain ⟨j, hj⟩ := List.mem_iff_getElem?.mp m
        exact hp j e (List.getElem?_eq_some_iff.mp hj).1 hj
      rw [namesDue_strs hs] at h
      rw [List.length_map] at hl
      trivial
      refine ⟨by rw [List.length_map]; omega, by rw [List.length_map]; omega, nn_of (by rw [range_len, List.length_map]; omega), ?_⟩
      refine forW_inv (fun i env => ∃ z y : Option SV, env = [some (.val (.tup (ss.map D.str))), z, y] ∧ ∀ (j : Nat) s, j < i → ss[j]? = some s → s ∉ ss.take j) (fun i d env N hi ⟨z, y, e, hp⟩ hN => ?_) (fun env ⟨z, y, e, hp⟩ => ?_) _ ⟨_, _, rfl, fun j s hj => absurd hj (by omega)⟩
      · subst e
        obtain ⟨hj, rfl⟩ := range_at hi
        rw [List.length_map] at hj
        have hj2 : i < ss.length := by omega
        have e2 : ss[i]? = some (ss[i]'hj2) := List.getElem?_eq_getElem hj2
        generalize ss[i]'hj2 = s at e2
        have e3 : (ss.map D.str)[i]? = some (.str s) := by rw [List.getElem?_map, e2]; rfl
        rw [Int.zero_add]
        trivial
        refine atK_at e3 ?_
        trivial
        rw [cutD_take (by omega), Int.toNat_natCast, ← List.map_take]
        refine in_strs ?_
        trivial
        refine iteB (fun c => ?_) (fun c => ?_)
        · have c' : s ∈ ss.take i := of_decide_eq_true c
          refine atK_at e3 ?_
          trivial
          refine ⟨lim_of (by decide), ?_⟩
          rw [repOf_at ss [] i s e2 (fun j t hj ht => by simpa using hp j t hj ht) (by simpa using c')] at h
          exact h
        · have c' : s ∉ ss.take i := of_decide_eq_false c
          refine hN _ ⟨_, _, rfl, fun j t hj ht => ?_⟩
          by_cases q : j < i
          · exact hp j t q ht
          · have : j = i := by omega
            subst this
            rw [e2] at ht
            cases ht
            exact c'
      · subst e
        have hr : repOf [] ss = none := repOf_no ss [] fun j t ht => by
          have hj := (List.getElem?_eq_some_iff.mp ht).1
          simpa using hp j t (by rw [range_len, List.length_map]; omega) ht
        rw [hr] at h
        have h' : Q (.val (dueD (if 12 < ss.length then some ⟨.tooMany, [.int 12]⟩ else none))) := h
        trivial
        refine iteB (fun c => ?_) (fun c => ?_)
        · have := of_decide_eq_true c
          rw [List.length_map] at this
          rw [if_pos (by omega)] at h'
          exact ⟨lim_of (by decide), h'⟩
        · have := of_decide_eq_false c
          rw [List.length_map] at this
          rw [if_neg (by omega)] at h'
          exact h'
  · trivial
    refine ⟨nn_of (by omega), forW_inv (fun i env => ∃ z y : Option SV, env = [some (.val (.lst ds)), z, y] ∧ ∀ (j : Nat) d, j < i → ds[j]? = some d → isNameD d = true) (fun i d env N hi ⟨z, y, e, hp⟩ hN => ?_) (fun env ⟨z, y, e, hp⟩ => ?_) _ ⟨_, _, rfl, fun j s hj => absurd hj (by omega)⟩⟩
    · subst e
      trivial
      refine isname_of (flat_ask (hf _ (List.mem_of_getElem? hi))) ?_
      cases hx : isNameD d
      · trivial
        refine ⟨lim_of (by decide), ?_⟩
        have e : namesDue ds = some ⟨.badName, [d]⟩ := by
          unfold namesDue badOf
          rw [find_at hi (p := fun d => !isNameD d) (by rw [hx]; rfl) fun j b hj hb => by rw [hp j b hj hb]; rfl]
        rw [e] at h
        exact h
      · trivial
        refine hN _ ⟨_, _, rfl, fun j t hj ht => ?_⟩
        by_cases q : j < i
        · exact hp j t q ht
        · have : j = i := by omega
          subst this
          rw [hi] at ht
          cases ht
          exact hx
    · subst e
      obtain ⟨ss, rfl, hs⟩ := all_names (ds := ds) fun e m => by
        obtain ⟨j, hj⟩ := List.mem_iff_getElem?.mp m
        exact hp j e (List.getElem?_eq_some_iff.mp hj).1 hj
      rw [namesDue_strs hs] at h
      rw [List.length_map] at hl
      trivial
      refine ⟨by rw [List.length_map]; omega, by rw [List.length_map]; omega, nn_of (by rw [range_len, List.length_map]; omega), ?_⟩
      refine forW_inv (fun i env => ∃ z y : Option SV, env = [some (.val (.lst (ss.map D.str))), z, y] ∧ ∀ (j : Nat) s, j < i → ss[j]? = some s → s ∉ ss.take j) (fun i d env N hi ⟨z, y, e, hp⟩ hN => ?_) (fun env ⟨z, y, e, hp⟩ => ?_) _ ⟨_, _, rfl, fun j s hj => absurd hj (by omega)⟩
      · subst e
        obtain ⟨hj, rfl⟩ := range_at hi
        rw [List.length_map] at hj
        have hj2 : i < ss.length := by omega
        have e2 : ss[i]? = some (ss[i]'hj2) := List.getElem?_eq_getElem hj2
        generalize ss[i]'hj2 = s at e2
        have e3 : (ss.map D.str)[i]? = some (.str s) := by rw [List.getElem?_map, e2]; rfl
        rw [Int.zero_add]
        trivial
        refine atK_at e3 ?_
        trivial
        rw [cutD_take (by omega), Int.toNat_natCast, ← List.map_take]
        refine in_strs ?_
        trivial
        refine iteB (fun c => ?_) (fun c => ?_)
        · have c' : s ∈ ss.take i := of_decide_eq_true c
          refine atK_at e3 ?_
          trivial
          refine ⟨lim_of (by decide), ?_⟩
          rw [repOf_at ss [] i s e2 (fun j t hj ht => by simpa using hp j t hj ht) (by simpa using c')] at h
          exact h
        · have c' : s ∉ ss.take i := of_decide_eq_false c
          refine hN _ ⟨_, _, rfl, fun j t hj ht => ?_⟩
          by_cases q : j < i
          · exact hp j t q ht
          · have : j = i := by omega
            subst this
            rw [e2] at ht
            cases ht
            exact c'
      · subst e
        have hr : repOf [] ss = none := repOf_no ss [] fun j t ht => by
          have hj := (List.getElem?_eq_some_iff.mp ht).1
          simpa using hp j t (by rw [range_len, List.length_map]; omega) ht
        rw [hr] at h
        have h' : Q (.val (dueD (if 12 < ss.length then some ⟨.tooMany, [.int 12]⟩ else none))) := h
        trivial
        refine iteB (fun c => ?_) (fun c => ?_)
        · have := of_decide_eq_true c
          rw [List.length_map] at this
          rw [if_pos (by omega)] at h'
          exact ⟨lim_of (by decide), h'⟩
        · have := of_decide_eq_false c
          rw [List.length_map] at this
          rw [if_neg (by omega)] at h'
          exact h'
abbrev sp__law_strange : FD := strangeF
theorem mono__law_strange : MonoF sp__law_strange := mono_strangeF
theorem ok__law_strange (T : Tx K mg A) : FnOk P w K mg base (L2N.CX P w) 5 A.a__law_strange A.f__law_strange ["store", "names"] (spD K 2 sp__law_strange) := by
  refine fn_okD T.F__law_strange sc__law_strange (by decide) (fun cdv A0 outer s H E g hK hr cy => ?_)
  refine ⟨_, _, (dss_cons (ds_asg 2 (de_call cy (ok__law_name T) mono__law_name (hr.mono (by decide)) (by rfl) T.m__law_name T.F__law_name.kp T.b__law_name (da_cons (de_var 0) da_nil)) sc__law_strange.nd)
    (dss_cons (ds_asg 3 (DE.frz (de_call cy (ok__law_take T) mono__law_take (hr.mono (by decide)) (by rfl) T.m__law_take T.F__law_take.kp T.b__law_take (da_cons (de_var 0) (da_cons de_int da_nil)))) sc__law_strange.nd)
    (dss_cut (ds_if (dt_eq cy (de_var 3) de_int) (dss_one (ds_asg 2 de_str sc__law_strange.nd)) dss_nil)
    (dss_cut (ds_if (dt_eq cy (de_var 3) de_int) (dss_one (ds_asg 2 de_str sc__law_strange.nd)) dss_nil)
    (dss_cut (ds_if (DW.dt (dw_and (dt_eq cy (de_var 3) de_int) (dw_and1 (dt_gt cy (de_len cy (by rfl) T.m_len (de_var 1)) de_int)))) (dss_one (ds_asg 2 (de_slice cy (de_add cy (de_call cy (ok__law_pick T) mono__law_pick (hr.mono (by decide)) (by rfl) T.m__law_pick T.F__law_pick.kp T.b__law_pick (da_cons (de_var 0) (da_cons (de_var 1) da_nil))) de_str) do_none (do_some de_int)) sc__law_strange.nd)) dss_nil)
    (dss_cut (ds_if (DW.dt (dw_and (dt_eq cy (de_var 3) de_int) (dw_and1 (dt_gt cy (de_len cy (by rfl) T.m_len (de_var 1)) de_int)))) (dss_cons (ds_asg 2 (de_call cy (ok__law_pick T) mono__law_pick (hr.mono (by decide)) (by rfl) T.m__law_pick T.F__law_pick.kp T.b__law_pick (da_cons (de_var 0) (da_cons (de_var 1) da_nil))) sc__law_strange.nd)
    (dss_one (ds_asg 2 (de_slice cy (de_var 2) do_none (do_some (de_max2 cy (by rfl) T.m_max (da_cons de_int (da_cons (de_sub cy (de_len cy (by rfl) T.m_len (de_var 2)) de_int) da_nil))))) sc__law_strange.nd))) dss_nil)
    (dss_cons (ds_for cy (di_range1 (by rfl) T.m_range (da_cons (de_add cy (de_len cy (by rfl) T.m_len (de_var 1)) de_int) da_nil)) (dg_name 4 sc__law_strange.nd) (dss_one (ds_if (dt_in cy (de_var 2) (de_var 1)) (dss_one (ds_asg 2 (de_add cy de_str (de_strf cy (by rfl) T.m_str (de_var 4))) sc__law_strange.nd)) dss_nil)))
    (dss_one (ds_ret (de_var 2)))))))))), fun rs Q Ex hlen h => ?_⟩
  obtain ⟨d, ss, rfl, hd, hl, hn, h⟩ := h
  cases d <;> simp only [seqD, Option.some.injEq, reduceCtorEq] at hd <;> subst hd
  · trivial
    refine name_of fun wd hw => ?_
    trivial
    refine take_of (by decide) fun r r0 _ r1 => ?_
    have zz : some (D.tup (ss.map D.str)) = some (D.tup (ss.map D.str)) := rfl
    trivial
    refine cut_of (fun env => ∃ wd, env = [some .sto, some (.val (.tup (ss.map D.str))), some (.val (.str wd)), some (.val (.int r)), none] ∧ isNameS wd = true) ?_ fun env ⟨wd, e, hw⟩ => ?_
    · trivial
      exact iteB (fun _ => ⟨_, rfl, by decide +kernel⟩) (fun _ => ⟨_, rfl, hw⟩)
    subst e
    trivial
    refine cut_of (fun env => ∃ wd, env = [some .sto, some (.val (.tup (ss.map D.str))), some (.val (.str wd)), some (.val (.int r)), none] ∧ isNameS wd = true) ?_ fun env ⟨wd, e, hw⟩ => ?_
    · trivial
      exact iteB (fun _ => ⟨_, rfl, by decide +kernel⟩) (fun _ => ⟨_, rfl, hw⟩)
    subst e
    trivial
    refine cut_of (fun env => ∃ wd, env = [some .sto, some (.val (.tup (ss.map D.str))), some (.val (.str wd)), some (.val (.int r)), none] ∧ isNameS wd = true) ?_ fun env ⟨wd, e, hw⟩ => ?_
    · trivial
      refine iteB (fun _ => iteB (fun c => ?_) (fun _ => ⟨_, rfl, hw⟩)) (fun _ => ⟨_, rfl, hw⟩)
      have c1 := of_decide_eq_true c
      rw [List.length_map] at c1
      refine pick_seq rfl (by rw [List.length_map]; omega) (by rw [List.length_map]; omega) fun c hc => ?_
      obtain ⟨s, hs, rfl⟩ := List.mem_map.mp hc
      have ⟨s0, s8⟩ := name_len (hn s hs)
      have z1 : (Str.ofString "0").length = 1 := by decide
      trivial
      rw [len_add]
      refine ⟨lim_of (by omega), lim_of (by omega), _, rfl, ?_⟩
      exact name_cut (n := 8) (name_zero (name_signs (hn s hs))) (by rw [len_add]; omega) (by decide) (.inl (by decide))
    subst e
    trivial
    refine cut_of (fun env => ∃ wd, env = [some .sto, some (.val (.tup (ss.map D.str))), some (.val (.str wd)), some (.val (.int r)), none] ∧ isNameS wd = true) ?_ fun env ⟨wd, e, hw⟩ => ?_
    · trivial
      refine iteB (fun _ => iteB (fun c => ?_) (fun _ => ⟨_, rfl, hw⟩)) (fun _ => ⟨_, rfl, hw⟩)
      have c1 := of_decide_eq_true c
      rw [List.length_map] at c1
      refine pick_seq rfl (by rw [List.length_map]; omega) (by rw [List.length_map]; omega) fun c hc => ?_
      obtain ⟨s, hs, rfl⟩ := List.mem_map.mp hc
      have ⟨s0, s8⟩ := name_len (hn s hs)
      trivial
      have hm : (if (s.length : Int) - 1 > 1 then (s.length : Int) - 1 else 1) = ((if (s.length : Int) - 1 > 1 then s.length - 1 else 1 : Nat) : Int) := by split <;> omega
      rw [hm]
      refine ⟨lim_of (by omega), lim_of (by omega), _, rfl, ?_⟩
      exact name_cut (name_signs (hn s hs)) s0 (by split <;> omega) (.inr s8)
    subst e
    trivial
    refine ⟨by rw [List.length_map]; omega, by rw [List.length_map]; omega, nn_of (by rw [range_len, List.length_map]; omega), ?_⟩
    refine forW_inv (fun i env => ∃ (wd : Str) (z : Option SV), env = [some .sto, some (.val (.tup (ss.map D.str))), some (.val (.str wd)), some (.val (.int r)), z] ∧ isNameS wd = true ∧ StrangeI ss i wd) (fun i d env N hi ⟨wd, z, e, hw, hI⟩ hN => ?_) (fun env ⟨wd, z, e, hw, hI⟩ => ?_) _ ⟨_, _, rfl, hw, .inr (.inl rfl)⟩
    · subst e
      obtain ⟨hj, rfl⟩ := range_at hi
      rw [List.length_map] at hj
      rw [Int.zero_add]
      have q := qn_ok i (by omega)
      have q1 : (Str.ofString "q").length = 1 := by decide
      trivial
      refine in_strs ?_
      trivial
      refine iteB (fun c => ?_) (fun c => ?_)
      · exact ⟨q.2.2, lim_of (by omega), hN _ ⟨_, _, rfl, q.1, strange_step hI (of_decide_eq_true c)⟩⟩
      · exact hN _ ⟨_, _, rfl, hw, .inl (of_decide_eq_false c)⟩
    · subst e
      rw [range_len, List.length_map] at hI
      trivial
      have hI' : StrangeI ss (ss.length + 1) wd := by
        have : ((ss.length : Int) + 1).toNat = ss.length + 1 := by omega
        rw [this] at hI
        exact hI
      exact h _ hw (strange_end hl hI')
  · trivial
    refine name_of fun wd hw => ?_
    trivial
    refine take_of (by decide) fun r r0 _ r1 => ?_
    have zz : some (D.lst (ss.map D.str)) = some (D.lst (ss.map D.str)) := rfl
    trivial
    refine cut_of (fun env => ∃ wd, env = [some .sto, some (.val (.lst (ss.map D.str))), some (.val (.str wd)), some (.val (.int r)), none] ∧ isNameS wd = true) ?_ fun env ⟨wd, e, hw⟩ => ?_
    · trivial
      exact iteB (fun _ => ⟨_, rfl, by decide +kernel⟩) (fun _ => ⟨_, rfl, hw⟩)
    subst e
    trivial
    refine cut_of (fun env => ∃ wd, env = [some .sto, some (.val (.lst (ss.map D.str))), some (.val (.str wd)), some (.val (.int r)), none] ∧ isNameS wd = true) ?_ fun env ⟨wd, e, hw⟩ => ?_
    · trivial
      exact iteB (fun _ => ⟨_, rfl, by decide +kernel⟩) (fun _ => ⟨_, rfl, hw⟩)
    subst e
    trivial
    refine cut_of (fun env => ∃ wd, env = [some .sto, some (.val (.lst (ss.map D.str))), some (.val (.str wd)), some (.val (.int r)), none] ∧ isNameS wd = true) ?_ fun env ⟨wd, e, hw⟩ => ?_
    · trivial
      refine iteB (fun _ => iteB (fun c => ?_) (fun _ => ⟨_, rfl, hw⟩)) (fun _ => ⟨_, rfl, hw⟩)
      have c1 := of_decide_eq_true c
      rw [List.length_map] at c1
      refine pick_seq rfl (by rw [List.length_map]; omega) (by rw [List.length_map]; omega) fun c hc => ?_
      obtain ⟨s, hs, rfl⟩ := List.mem_map.mp hc
      have ⟨s0, s8⟩ := name_len (hn s hs)
      have z1 : (Str.ofString "0").length = 1 := by decide
      trivial
      rw [len_add]
      refine ⟨lim_of (by omega), lim_of (by omega), _, rfl, ?_⟩
      exact name_cut (n := 8) (name_zero (name_signs (hn s hs))) (by rw [len_add]; omega) (by decide) (.inl (by decide))
    subst e
    trivial
    refine cut_of (fun env => ∃ wd, env = [some .sto, some (.val (.lst (ss.map D.str))), some (.val (.str wd)), some (.val (.int r)), none] ∧ isNameS wd = true) ?_ fun env ⟨wd, e, hw⟩ => ?_
    · trivial
      refine iteB (fun _ => iteB (fun c => ?_) (fun _ => ⟨_, rfl, hw⟩)) (fun _ => ⟨_, rfl, hw⟩)
      have c1 := of_decide_eq_true c
      rw [List.length_map] at c1
      refine pick_seq rfl (by rw [List.length_map]; omega) (by rw [List.length_map]; omega) fun c hc => ?_
      obtain ⟨s, hs, rfl⟩ := List.mem_map.mp hc
      have ⟨s0, s8⟩ := name_len (hn s hs)
      trivial
      have hm : (if (s.length : Int) - 1 > 1 then (s.length : Int) - 1 else 1) = ((if (s.length : Int) - 1 > 1 then s.length - 1 else 1 : Nat) : Int) := by split <;> omega
      rw [hm]
      refine ⟨lim_of (by omega), lim_of (by omega), _, rfl, ?_⟩
      exact name_cut (name_signs (hn s hs)) s0 (by split <;> omega) (.inr s8)
    subst e
    trivial
    refine ⟨by rw [List.length_map]; omega, by rw [List.length_map]; omega, nn_of (by rw [range_len, List.length_map]; omega), ?_⟩
    refine forW_inv (fun i env => ∃ (wd : Str) (z : Option SV), env = [some .sto, some (.val (.lst (ss.map D.str))), some (.val (.str wd)), some (.val (.int r)), z] ∧ isNameS wd = true ∧ StrangeI ss i wd) (fun i d env N hi ⟨wd, z, e, hw, hI⟩ hN => ?_) (fun env ⟨wd, z, e, hw, hI⟩ => ?_) _ ⟨_, _, rfl, hw, .inr (.inl rfl)⟩
    · subst e
      obtain ⟨hj, rfl⟩ := range_at hi
      rw [List.length_map] at hj
      rw [Int.zero_add]
      have q := qn_ok i (by omega)
      have q1 : (Str.ofString "q").length = 1 := by decide
      trivial
      refine in_strs ?_
      trivial
      refine iteB (fun c => ?_) (fun c => ?_)
      · exact ⟨q.2.2, lim_of (by omega), hN _ ⟨_, _, rfl, q.1, strange_step hI (of_decide_eq_true c)⟩⟩
      · exact hN _ ⟨_, _, rfl, hw, .inl (of_decide_eq_false c)⟩
    · subst e
      rw [range_len, List.length_map] at hI
      trivial
      have hI' : StrangeI ss (ss.length + 1) wd := by
        have : ((ss.length : Int) + 1).toNat = ss.length + 1 := by omega
        rw [this] at hI
        exact hI
      exact h _ hw (strange_end hl hI')
abbrev sp__law_names : FD := namesF
theorem mono__law_names : MonoF sp__law_names := mono_namesF
theorem ok__law_names (T : Tx K mg A) : FnOk P w K mg base (L2N.CX P w) 6 A.a__law_names A.f__law_names ["store", "count"] (spD K 2 sp__law_names) := by
  refine fn_okD T.F__law_names sc__law_names (by decide) (fun cdv A0 outer s H E g hK hr cy => ?_)
  refine ⟨_, _, (dss_cons (ds_asg 2 (DE.frz de_str) sc__law_names.nd)
    (dss_cons (ds_asg 3 (DE.frz (de_add cy (de_var 2) de_str)) sc__law_names.nd)
    (dss_cons (ds_asg 4 (DE.frz (de_call cy (ok__law_take T) mono__law_take (hr.mono (by decide)) (by rfl) T.m__law_take T.F__law_take.kp T.b__law_take (da_cons (de_var 0) (da_cons de_int da_nil)))) sc__law_names.nd)
    (dss_cons (ds_asg 5 (DE.frz (de_call cy (ok__law_take T) mono__law_take (hr.mono (by decide)) (by rfl) T.m__law_take T.F__law_take.kp T.b__law_take (da_cons (de_var 0) (da_cons de_int da_nil)))) sc__law_names.nd)
    (dss_cons (ds_asg 6 (DE.frz (de_item cy (de_tup (da_cons de_int (da_cons de_int (da_cons de_int (da_cons de_int da_nil))))) (de_call cy (ok__law_take T) mono__law_take (hr.mono (by decide)) (by rfl) T.m__law_take T.F__law_take.kp T.b__law_take (da_cons (de_var 0) (da_cons de_int da_nil))))) sc__law_names.nd)
    (dss_cons (ds_asg 7 (de_lst da_nil) sc__law_names.nd)
    (dss_cons (ds_if (dt_eq cy (de_var 4) de_int) (dss_one (ds_ret (de_sorted cy (by rfl) T.m_sorted (de_lc cy (own := [("k", 11)]) sc__law_names.nd (di_range1 (by rfl) T.m_range (da_cons (de_var 1) da_nil)) (blkOk_by (own := [("k", 11)]) (N := N__law_names) (sc := defScope s__law_names) (by decide +kernel)) (fun _ _ _ _ _ cy => (dg_name 11 sc__law_names.nd)) (fun _ _ _ _ _ cy => dts_nil) (fun _ _ _ _ _ cy => (de_item cy (de_var 2) (de_mod cy (de_intf cy (by rfl) T.m_int (de_add cy (de_var 5) (de_mul cy (de_var 6) (de_var 11)))) de_int))))))) dss_nil)
    (dss_cons (ds_asg 8 (DE.frz (de_call cy (ok__law_name T) mono__law_name (hr.mono (by decide)) (by rfl) T.m__law_name T.F__law_name.kp T.b__law_name (da_cons (de_var 0) da_nil))) sc__law_names.nd)
    (dss_cons (ds_if (dt_eq cy (de_var 4) de_int) (dss_cons (ds_asg 9 (DE.frz (de_call cy (ok__law_take T) mono__law_take (hr.mono (by decide)) (by rfl) T.m__law_take T.F__law_take.kp T.b__law_take (da_cons (de_var 0) (da_cons (de_len cy (by rfl) T.m_len (de_var 8)) da_nil)))) sc__law_names.nd)
    (dss_cons (ds_asg 10 (DE.frz (de_var 3)) sc__law_names.nd)
    (dss_cut (ds_if (dt_eq cy (de_var 9) de_int) (dss_one (ds_asg 10 (DE.frz (de_var 2)) sc__law_names.nd)) dss_nil)
    (dss_cons (ds_for cy (di_range1 (by rfl) T.m_range (da_cons (de_var 1) da_nil)) (dg_name 11 sc__law_names.nd) (dss_one (ds_append cy 7 (pv 7) (de_add cy (de_add cy (de_slice cy (de_var 8) do_none (do_some (de_var 9))) (de_item cy (de_var 10) (de_mod cy (de_intf cy (by rfl) T.m_int (de_add cy (de_var 5) (de_mul cy (de_var 6) (de_var 11)))) (de_len cy (by rfl) T.m_len (de_var 10))))) (de_slice cy (de_var 8) (do_some (de_add cy (de_var 9) de_int)) do_none)))))
    (dss_one (ds_ret (de_sorted cy (by rfl) T.m_sorted (de_var 7)))))))) dss_nil)
    (dss_cons (ds_if (dt_eq cy (de_var 4) de_int) (dss_cons (ds_asg 8 (DE.frz (de_slice cy (de_add cy (de_var 8) de_str) do_none (do_some de_int))) sc__law_names.nd)
    (dss_cons (ds_asg 12 (DE.frz (de_call cy (ok__law_take T) mono__law_take (hr.mono (by decide)) (by rfl) T.m__law_take T.F__law_take.kp T.b__law_take (da_cons (de_var 0) (da_cons (de_max2 cy (by rfl) T.m_max (da_cons de_int (da_cons (de_sub cy de_int (de_var 1)) da_nil))) da_nil)))) sc__law_names.nd)
    (dss_cons (ds_asg 13 (DE.frz (de_sidx cy (de_var 3) (de_item cy (de_var 8) de_int))) sc__law_names.nd)
    (dss_cons (ds_for cy (di_range1 (by rfl) T.m_range (da_cons (de_var 1) da_nil)) (dg_name 11 sc__law_names.nd) (dss_one (ds_if (dt_lt cy (de_var 11) de_int) (dss_one (ds_append cy 7 (pv 7) (de_slice cy (de_var 8) do_none (do_some (de_add cy (de_add cy (de_var 12) (de_var 11)) de_int))))) (dss_one (ds_append cy 7 (pv 7) (de_add cy (de_slice cy (de_var 8) do_none (do_some de_int)) (de_item cy (de_var 3) (de_mod cy (de_intf cy (by rfl) T.m_int (de_sub cy (de_add cy (de_var 13) (de_var 11)) de_int)) de_int))))))))
    (dss_one (ds_ret (de_sorted cy (by rfl) T.m_sorted (de_var 7)))))))) dss_nil)
    (dss_cons (ds_for cy (di_range1 (by rfl) T.m_range (da_cons (de_var 1) da_nil)) (dg_name 11 sc__law_names.nd) (dss_one (ds_append cy 7 (pv 7) (DE.loan (de_call cy (ok__law_strange T) mono__law_strange (hr.mono (by decide)) (by rfl) T.m__law_strange T.F__law_strange.kp T.b__law_strange (da_cons (de_var 0) (da_cons (de_var 7) da_nil)))))))
    (dss_one (ds_ret (de_sorted cy (by rfl) T.m_sorted (de_var 7))))))))))))))), fun rs Q Ex hlen h => ?_⟩
  obtain ⟨n, rfl, n0, n1, h⟩ := h
  trivial
  refine ⟨by decide, take_of (by decide) fun lk lk0 _ lk1 => ?_⟩
  trivial
  refine take_of (by decide) fun st st0 _ st1 => ?_
  have st2 := st1 (by decide)
  trivial
  refine ⟨lim_of (by decide), take_of (by decide) fun c4 c40 _ c41 => ?_⟩
  have c42 := c41 (by decide)
  trivial
  refine atK_mem c40 (by simp; omega) fun dsp hsp => ?_
  obtain ⟨sp, rfl, hsq⟩ : ∃ sp : Int, dsp = .int sp ∧ (sp = 1 ∨ sp = 5 ∨ sp = 7 ∨ sp = 11) := by
    simp only [List.mem_cons, List.not_mem_nil, or_false] at hsp
    rcases hsp with rfl | rfl | rfl | rfl
    · exact ⟨_, rfl, .inl rfl⟩
    · exact ⟨_, rfl, .inr (.inl rfl)⟩
    · exact ⟨_, rfl, .inr (.inr (.inl rfl))⟩
    · exact ⟨_, rfl, .inr (.inr (.inr rfl))⟩
  have spb : -20 < sp ∧ sp < 20 := by omega
  trivial
  refine ⟨lim_of (by decide), iteB (fun _ => ?_) (fun _ => ?_)⟩
  · -- one sign each
    refine ⟨by omega, by omega, nn_of (by rw [range_len]; omega), ?_⟩
    refine lcW_draw (fun d e => ∃ k : Nat, d = .int (0 + (k : Int)) ∧ e = .str (nm0 st sp k)) _ _ (fun d hd Y N hY => ?_) (fun es hl he => ?_)
    · obtain ⟨k, hk, rfl⟩ := mem_range hd
      trivial
      have f := fmod_in (x := st + sp * (0 + (k : Int))) (M := 26) (by decide)
      refine ⟨cmul_l (by omega) (by omega), by decide, lim_of (by decide), _, sgn_at (l := LET.cps.toList) f.1 (by rw [let_len]; exact f.2), ?_⟩
      trivial
      refine ⟨_, rfl, hY _ ⟨k, rfl, ?_⟩⟩
      unfold nm0
      rw [Int.zero_add]
    rw [range_len] at hl
    have ee : es = ((List.range n.toNat).map (nm0 st sp)).map D.str := by
      apply List.ext_getElem?
      intro i
      by_cases hi : i < n.toNat
      · have h1 : i < es.length := by omega
        have h2 : i < (rangeD 0 n.toNat).length := by rw [range_len]; exact hi
        obtain ⟨k, hk, hek⟩ := he i _ _ (List.getElem?_eq_getElem h2) (List.getElem?_eq_getElem h1)
        obtain ⟨_, h4⟩ := range_at (List.getElem?_eq_getElem h2)
        rw [h4] at hk
        have : i = k := by
          have := D.int.inj hk
          omega
        subst this
        rw [List.getElem?_eq_getElem h1, hek, List.getElem?_map, List.getElem?_map, List.getElem?_range hi]
        rfl
      · rw [List.getElem?_eq_none (by omega), List.getElem?_eq_none (by rw [List.length_map, List.length_map, List.length_range]; omega)]
    subst ee
    rw [List.nil_append]
    trivial
    rw [strsOf_map]
    trivial
    refine ⟨lim_of (by rw [List.length_map, List.length_range]; omega), ?_⟩
    exact names_done n0 (fun k _ => nm0_ok k) (fun i j a b => nm0_ne hsq a (by omega)) h
  refine name_of fun wd hw => ?_
  have ⟨w0, w8⟩ := name_len hw
  trivial
  refine iteB (fun _ => ?_) (fun _ => ?_)
  · -- one sign of a word
    refine ⟨lim_of (by omega), take_of (by omega) fun pl p0 px p1 => ?_⟩
    obtain ⟨pn, rfl⟩ : ∃ pn : Nat, pl = pn := ⟨pl.toNat, (Int.toNat_of_nonneg p0).symm⟩
    have hp : pn < wd.length := by
      by_cases c : (2 : Int) ≤ wd.length
      · have := p1 c
        omega
      · have := px (by omega)
        omega
    trivial
    refine cut_of (fun env => ∃ (menu : Str) (MM : Int), env = [some .sto, some (.val (.int n)), some (.val (.str LET)), some (.val (.str SIG2)), some (.val (.int lk)), some (.val (.int st)), some (.val (.int sp)), some (.own []), some (.val (.str wd)), some (.val (.int (pn : Int))), some (.val (.str menu)), none, none, none] ∧ menu.length ≤ 36 ∧ (menu.cps.toList.length : Int) = MM ∧ (MM = 26 ∨ MM = 36) ∧ menu.cps.toList.Nodup ∧ (∀ c ∈ menu.cps.toList, c ∈ SIG.cps.toList) ∧ (pn = 0 → ∀ c ∈ menu.cps.toList, c ∈ LET.cps.toList)) ?_ fun env ⟨menu, MM, e, m36, m1, m2, m3, m4, m5⟩ => ?_
    · trivial
      refine iteB (fun c => ?_) (fun c => ?_)
      · exact ⟨LET, 26, rfl, by decide +kernel, let_len, .inl rfl, let_nodup, let_sig, fun _ c m => m⟩
      · exact ⟨SIG2, 36, rfl, by decide +kernel, sig2_len, .inr rfl, sig2_nodup, sig2_sig, fun z => absurd (of_decide_eq_false c) (by simp [z])⟩
    subst e
    have M0 : 0 < MM := by rcases m2 with rfl | rfl <;> decide
    have mlen : (menu.length : Int) = MM := by rw [← m1, chars_len]
    trivial
    refine ⟨by omega, by omega, nn_of (by rw [range_len]; omega), ?_⟩
    refine forW_inv (fun i env => ∃ z : Option SV, env = [some .sto, some (.val (.int n)), some (.val (.str LET)), some (.val (.str SIG2)), some (.val (.int lk)), some (.val (.int st)), some (.val (.int sp)), some (.own (((List.range i).map (nm1 menu.cps.toList MM wd pn st sp)).map D.str)), some (.val (.str wd)), some (.val (.int (pn : Int))), some (.val (.str menu)), z, none, none]) (fun i d env N hi ⟨z, e⟩ hN => ?_) (fun env ⟨z, e⟩ => ?_) _ ⟨_, rfl⟩
    · subst e
      obtain ⟨hj, rfl⟩ := range_at hi
      rw [Int.zero_add]
      have f := fmod_in (x := st + sp * (i : Int)) M0
      have ok := name_len (nm1_ok (st := st) (s := sp) hw hp m1 M0 m4 m5 i)
      have k1 : (cutS wd none (some (pn : Int))).length ≤ 8 := cut8 w8
      have k2 : (cutS wd (some ((pn : Int) + 1)) none).length ≤ 8 := cut8 w8
      trivial
      rw [mlen]
      refine ⟨lim_of (by omega), cmul_l (by omega) (by omega), lim_of (by omega), by omega, lim_of (by omega), _, sgn_at (l := menu.cps.toList) f.1 (by rw [m1]; exact f.2), ?_⟩
      trivial
      rw [len_add]
      simp only [one_len]
      refine ⟨lim_of (by omega), lim_of (by omega), lim_of (by omega), lim_of (by rw [List.length_map, List.length_map, List.length_range]; omega), ?_⟩
      have hg := grow_map (nm := nm1 menu.cps.toList MM wd pn st sp) (i := i)
      rw [show nm1 menu.cps.toList MM wd pn st sp i = cutS wd none (some (pn : Int)) ++ ⟨#[sgn menu.cps.toList ((st + sp * (i : Int)).fmod MM)]⟩ ++ cutS wd (some ((pn : Int) + 1)) none from rfl] at hg
      rw [hg]
      exact hN _ ⟨_, rfl⟩
    · subst e
      rw [range_len]
      trivial
      rw [strsOf_map]
      trivial
      refine ⟨lim_of (by rw [List.length_map, List.length_range]; omega), ?_⟩
      exact names_done n0 (fun k _ => nm1_ok hw hp m1 M0 m4 m5 k) (fun i j a b => nm1_ne m3 m1 m2 hsq a (by omega)) h
  refine iteB (fun _ => ?_) (fun _ => ?_)
  · -- beginnings of a word
    have b7 : (Str.ofString "b0b0b0b").length = 7 := by decide
    have sg8 : SignsOk (wd ++ Str.ofString "b0b0b0b") := signs_app (name_signs hw) (by decide +kernel)
    rw [len_add]
    refine ⟨lim_of (by omega), lim_of (by omega), take_of (by split <;> omega) fun ah a0 ax a1 => ?_⟩
    have hwd8 : isNameS (cutS (wd ++ Str.ofString "b0b0b0b") none (some 8)) = true := name_cut (n := 8) sg8 (by rw [len_add]; omega) (by decide) (.inl (by decide))
    have hl8 : (cutS (wd ++ Str.ofString "b0b0b0b") none (some 8)).length = 8 := by
      have := cutS_to_len (wd ++ Str.ofString "b0b0b0b") 8
      rw [len_add] at this
      rw [show (8 : Int) = ((8 : Nat) : Int) from rfl, this]
      omega
    generalize cutS (wd ++ Str.ofString "b0b0b0b") none (some 8) = w8d at hwd8 hl8
    obtain ⟨an, rfl⟩ : ∃ an : Nat, ah = an := ⟨ah.toNat, (Int.toNat_of_nonneg a0).symm⟩
    have han : (an : Int) + n ≤ 8 ∨ an = 0 := by
      by_cases c : 9 - n > 1
      · rw [if_pos c] at ax a1
        by_cases c2 : (2 : Int) ≤ 9 - n
        · have := a1 c2
          omega
        · omega
      · rw [if_neg c] at ax a1
        right
        have := ax (by decide)
        omega
    trivial
    have h7 : 7 < w8d.cps.toList.length := by rw [chars_len]; omega
    refine ⟨lim_of (by omega), _, atI_nat (j := 7) (List.getElem?_eq_getElem h7), ?_⟩
    generalize hc7 : w8d.cps.toList[7]'h7 = c7
    have m7 : c7 ∈ SIG2.cps.toList := by
      have := List.all_eq_true.mp (name_signs hwd8).2 c7 (by rw [← hc7]; exact List.getElem_mem h7)
      have e : SIG2.cps.toList = SIG.cps.toList := by decide +kernel
      rw [e]
      simpa using this
    trivial
    refine idx_of (s := SIG2) m7 fun l hl7 => ?_
    have hl36 : l < 36 := by
      have := (List.getElem?_eq_some_iff.mp hl7).1
      have e := sig2_len
      omega
    have hlast : w8d.cps.toList[7]? = some (sgn SIG2.cps.toList (l : Int)) := by
      rw [List.getElem?_eq_getElem h7, hc7]
      unfold sgn
      rw [Int.toNat_natCast, List.getD_eq_getElem?_getD, hl7]
      rfl
    refine ⟨by omega, by omega, nn_of (by rw [range_len]; omega), ?_⟩
    refine forW_inv (fun i env => ∃ z : Option SV, env = [some .sto, some (.val (.int n)), some (.val (.str LET)), some (.val (.str SIG2)), some (.val (.int lk)), some (.val (.int st)), some (.val (.int sp)), some (.own (((List.range i).map (nm2 w8d an l)).map D.str)), some (.val (.str w8d)), none, none, z, some (.val (.int (an : Int))), some (.val (.int (l : Int)))]) (fun i d env N hi ⟨z, e⟩ hN => ?_) (fun env ⟨z, e⟩ => ?_) _ ⟨_, rfl⟩
    · subst e
      obtain ⟨hj, rfl⟩ := range_at hi
      rw [Int.zero_add]
      have hg := grow_map (nm := nm2 w8d an l) (i := i)
      have k1 : (cutS w8d none (some 7)).length ≤ 8 := cut8 (by omega)
      trivial
      refine iteB (fun c => ?_) (fun c => ?_)
      · have c1 : i < 8 := by have := of_decide_eq_true c; omega
        rw [show nm2 w8d an l i = cutS w8d none (some ((an : Int) + i + 1)) from if_pos c1] at hg
        refine ⟨lim_of (by omega), lim_of (by rw [List.length_map, List.length_map, List.length_range]; omega), ?_⟩
        rw [hg]
        exact hN _ ⟨_, rfl⟩
      · have c1 : ¬ i < 8 := by have := of_decide_eq_false c; omega
        have f := fmod_in (x := (l : Int) + i - 7) (M := 36) (by decide)
        rw [show nm2 w8d an l i = cutS w8d none (some 7) ++ ⟨#[sgn SIG2.cps.toList (((l : Int) + i - 7).fmod 36)]⟩ from if_neg c1] at hg
        refine ⟨lim_of (by omega), by decide, lim_of (by decide), _, sgn_at (l := SIG2.cps.toList) f.1 (by rw [sig2_len]; exact f.2), ?_⟩
        trivial
        simp only [one_len]
        refine ⟨lim_of (by omega), lim_of (by rw [List.length_map, List.length_map, List.length_range]; omega), ?_⟩
        rw [hg]
        exact hN _ ⟨_, rfl⟩
    · subst e
      rw [range_len]
      trivial
      rw [strsOf_map]
      trivial
      refine ⟨lim_of (by rw [List.length_map, List.length_range]; omega), ?_⟩
      exact names_done n0 (fun k _ => nm2_ok hwd8 k) (fun i j a b => nm2_ne (n := n.toNat) hl8 hl36 hlast (by omega) (by omega) a (by omega)) h
  · -- free ones
    refine ⟨by omega, by omega, nn_of (by rw [range_len]; omega), ?_⟩
    refine forW_inv (fun i env => ∃ (z : Option SV) (ss : List Str), env = [some .sto, some (.val (.int n)), some (.val (.str LET)), some (.val (.str SIG2)), some (.val (.int lk)), some (.val (.int st)), some (.val (.int sp)), some (.own (ss.map D.str)), some (.val (.str wd)), none, none, z, none, none] ∧ NamesOk ss ∧ ss.length = i) (fun i d env N hi ⟨z, ss, e, ok, hl⟩ hN => ?_) (fun env ⟨z, ss, e, ok, hl⟩ => ?_) _ ⟨_, [], rfl, ⟨(fun _ m => nomatch m), List.nodup_nil⟩, rfl⟩
    · subst e
      obtain ⟨hj, rfl⟩ := range_at hi
      trivial
      refine strange_of (ss := ss) rfl (by omega) ok.1 fun s hs hns => ?_
      trivial
      refine ⟨lim_of (by rw [List.length_map]; omega), hN _ ⟨_, ss ++ [s], by rw [List.map_append]; rfl, ⟨fun t m => ?_, ?_⟩, by rw [List.length_append]; simp; omega⟩⟩
      · rcases List.mem_append.mp m with m | m
        · exact ok.1 t m
        · rw [List.mem_singleton.mp m]
          exact hs
      · rw [List.nodup_append]
        refine ⟨ok.2, by simp, fun a ha b hb => ?_⟩
        rw [List.mem_singleton.mp hb]
        exact fun z => hns (by rw [← z]; exact ha)
    · subst e
      rw [range_len] at hl
      trivial
      rw [strsOf_map]
      trivial
      exact ⟨lim_of (by omega), h _ (sortS_ok ok) (sortS_id (sortS_pw _)) (by rw [sortS_len]; omega)⟩
abbrev sp__law_bentnames : FD := bentF
theorem mono__law_bentnames : MonoF sp__law_bentnames := mono_bentF
theorem ok__law_bentnames (T : Tx K mg A) : FnOk P w K mg base (L2N.CX P w) 6 A.a__law_bentnames A.f__law_bentnames ["store", "names"] (spD K 2 sp__law_bentnames) := by
  refine fn_okD T.F__law_bentnames sc__law_bentnames (by decide) (fun cdv A0 outer s H E g hK hr cy => ?_)
  refine ⟨_, _, (dss_cons (ds_asg 2 (de_call cy (ok__law_shuffled T) mono__law_shuffled (hr.mono (by decide)) (by rfl) T.m__law_shuffled T.F__law_shuffled.kp T.b__law_shuffled (da_cons (de_var 0) (da_cons (de_var 1) da_nil))) sc__law_bentnames.nd)
    (dss_cons (ds_asg 3 (DE.frz (de_call cy (ok__law_take T) mono__law_take (hr.mono (by decide)) (by rfl) T.m__law_take T.F__law_take.kp T.b__law_take (da_cons (de_var 0) (da_cons de_int da_nil)))) sc__law_bentnames.nd)
    (dss_cut (ds_if (dt_gt cy (de_var 3) de_int) (dss_cons (ds_asg 4 (DE.frz (de_add cy de_int (de_call cy (ok__law_take T) mono__law_take (hr.mono (by decide)) (by rfl) T.m__law_take T.F__law_take.kp T.b__law_take (da_cons (de_var 0) (da_cons de_int da_nil))))) sc__law_bentnames.nd)
    (dss_cons (ds_for cy (di_range1 (by rfl) T.m_range (da_cons de_int da_nil)) (dg_name 5 sc__law_bentnames.nd) (dss_one (ds_if (DW.dt (dw_and (dt_lt cy (de_len cy (by rfl) T.m_len (de_var 2)) (de_var 4)) (dw_and1 (dt_notin cy (de_add cy de_str (de_strf cy (by rfl) T.m_str (de_var 5))) (de_var 2))))) (dss_one (ds_append cy 2 (pv 2) (de_add cy de_str (de_strf cy (by rfl) T.m_str (de_var 5))))) dss_nil)))
    (dss_one (ds_asg 2 (DE.loan (de_call cy (ok__law_shuffled T) mono__law_shuffled (hr.mono (by decide)) (by rfl) T.m__law_shuffled T.F__law_shuffled.kp T.b__law_shuffled (da_cons (de_var 0) (da_cons (de_var 2) da_nil)))) sc__law_bentnames.nd)))) dss_nil)
    (dss_cut (ds_if (DW.dt (dw_and (dt_in cy (de_var 3) (de_tup (da_cons de_int (da_cons de_int (da_cons de_int da_nil))))) (dw_and1 (dt_gt cy (de_len cy (by rfl) T.m_len (de_var 2)) de_int)))) (dss_cons (ds_asg 6 (DE.frz (DE.loan (de_call cy (ok__law_pick T) mono__law_pick (hr.mono (by decide)) (by rfl) T.m__law_pick T.F__law_pick.kp T.b__law_pick (da_cons (de_var 0) (da_cons (de_var 2) da_nil))))) sc__law_bentnames.nd)
    (dss_one (ds_insert cy 2 (pv 2) (da_cons (de_call cy (ok__law_take T) mono__law_take (hr.mono (by decide)) (by rfl) T.m__law_take T.F__law_take.kp T.b__law_take (da_cons (de_var 0) (da_cons (de_add cy (de_len cy (by rfl) T.m_len (de_var 2)) de_int) da_nil))) (da_cons (de_var 6) da_nil))))) dss_nil)
    (dss_cut (ds_if (DW.dt (dw_or (dt_in cy (de_var 3) (de_tup (da_cons de_int (da_cons de_int da_nil)))) (dw_or1 (DW.dt (dw_and (dt_eq cy (de_len cy (by rfl) T.m_len (de_var 1)) de_int) (dw_and1 (dt_eq cy (de_var 3) de_int))))))) (dss_one (ds_insert cy 2 (pv 2) (da_cons (de_call cy (ok__law_take T) mono__law_take (hr.mono (by decide)) (by rfl) T.m__law_take T.F__law_take.kp T.b__law_take (da_cons (de_var 0) (da_cons (de_add cy (de_len cy (by rfl) T.m_len (de_var 2)) de_int) da_nil))) (da_cons (de_call cy (ok__law_badname T) mono__law_badname (hr.mono (by decide)) (by rfl) T.m__law_badname T.F__law_badname.kp T.b__law_badname (da_cons (de_var 0) da_nil)) da_nil)))) dss_nil)
    (dss_one (ds_ret (de_var 2)))))))), fun rs Q Ex hlen h => ?_⟩
  obtain ⟨d, ds, rfl, hd, hl, hf, h⟩ := h
  cases d <;> simp only [seqD, Option.some.injEq, reduceCtorEq] at hd <;> (have hd := hd.symm; subst hd)
  · trivial
    refine shuffled_of rfl (by omega) fun ys hp => ?_
    have hy : ∀ e ∈ ys, FlatD e := fun e m => hf e (hp.mem_iff.mp m)
    have hyl := hp.length_eq
    trivial
    refine take_of (by decide) fun r r0 _ r1 => ?_
    trivial
    refine cut_of (fun env => ∃ (ys : List D) (z4 z5 z6 : Option SV), env = [some .sto, some (.val (.tup ds)), some (.own ys), some (.val (.int r)), z4, z5, z6] ∧ ys.length ≤ 50 ∧ ∀ e ∈ ys, FlatD e) ?_ fun env ⟨ys, z4, z5, z6, e, hyl, hy⟩ => ?_
    · trivial
      refine iteB (fun _ => ?_) (fun _ => ⟨_, _, _, _, rfl, by omega, hy⟩)
      refine take_of (by decide) fun g g0 _ g1 => ?_
      trivial
      refine ⟨by decide, by decide, nn_of (by rw [range_len]; decide), ?_⟩
      refine forW_inv (fun i env => ∃ (ys : List D) (z5 z6 : Option SV), env = [some .sto, some (.val (.tup ds)), some (.own ys), some (.val (.int r)), some (.val (.int (13 + g))), z5, z6] ∧ ys.length ≤ 20 + i ∧ ∀ e ∈ ys, FlatD e) (fun i d env N hi ⟨ys, z5, z6, e, hyl, hy⟩ hN => ?Atup) (fun env ⟨ys, z5, z6, e, hyl, hy⟩ => ?Btup) _ ⟨ys, _, _, rfl, by omega, hy⟩
      case Atup =>
        subst e
        obtain ⟨hj, rfl⟩ := range_at hi
        have hj30 : i < 30 := hj
        obtain ⟨q1, q2, q3⟩ := xn_ok i hj30
        rw [Int.zero_add]
        trivial
        refine iteB (fun _ => ?_) (fun _ => hN _ ⟨ys, _, _, rfl, by omega, hy⟩)
        refine ⟨q3, lim_of (by omega), in_flat (ds := ys) (d := .str _) ⟨by rw [len_add]; omega, allV_lit q2⟩ hy fun b => ?_⟩
        trivial
        cases b
        · trivial
          exact hN _ ⟨ys, _, _, rfl, by omega, hy⟩
        · trivial
          refine ⟨q3, lim_of (by omega), lim_of (by omega), hN _ ⟨_, _, _, rfl, by rw [List.length_append]; simp; omega, fun e m => ?_⟩⟩
          rcases List.mem_append.mp m with m | m
          · exact hy e m
          · rw [List.mem_singleton.mp m]
            exact ⟨by rw [len_add]; omega, allV_lit q2⟩
      case Btup =>
        subst e
        have hyl2 : ys.length ≤ 50 := by
          rw [range_len] at hyl
          exact hyl
        trivial
        refine shuffled_of rfl (by omega) fun zs hz => ?_
        have hzy : ∀ e ∈ zs, FlatD e := fun e m => hy e (hz.mem_iff.mp m)
        trivial
        exact ⟨flats_lf hzy, _, _, _, _, rfl, by rw [hz.length_eq]; exact hyl2, hzy⟩
    subst e
    trivial
    refine cut_of (fun env => ∃ (ys : List D) (z4 z5 z6 : Option SV), env = [some .sto, some (.val (.tup ds)), some (.own ys), some (.val (.int r)), z4, z5, z6] ∧ ys.length ≤ 51 ∧ ∀ e ∈ ys, FlatD e) ?_ fun env ⟨ys, z4, z5, z6, e, hyl, hy⟩ => ?_
    · trivial
      refine ⟨lim_of (by decide), in_flat (d := .int r) True.intro (fun e m => ?_) fun b => ?_⟩
      · simp only [List.mem_cons, List.not_mem_nil, or_false] at m
        rcases m with rfl | rfl | rfl <;> exact True.intro
      trivial
      cases b
      · trivial
        exact ⟨_, _, _, _, rfl, by omega, hy⟩
      trivial
      refine iteB (fun c => ?_) (fun _ => ⟨_, _, _, _, rfl, by omega, hy⟩)
      have c1 := of_decide_eq_true c
      refine pick_lst (by omega) (by omega) fun d hd => ?_
      trivial
      refine ⟨flat_lf (hy d hd), take_of (by omega) fun k k0 kx k1 => ?_⟩
      trivial
      refine ⟨lim_of (by omega), k0, ?_, _, _, _, _, rfl, ?_, fun e m => ?_⟩
      · by_cases c2 : (2 : Int) ≤ (ys.length : Int) + 1
        · have := k1 c2
          omega
        · omega
      · simp only [List.length_append, List.length_take, List.length_drop, List.length_cons, List.length_nil]
        omega
      · rcases List.mem_append.mp m with m | m
        · rcases List.mem_append.mp m with m | m
          · exact hy e (List.mem_of_mem_take m)
          · rw [List.mem_singleton.mp m]
            exact hy d hd
        · exact hy e (List.mem_of_mem_drop m)
    subst e
    trivial
    refine cut_of (fun env => ∃ (ys : List D) (z4 z5 z6 : Option SV), env = [some .sto, some (.val (.tup ds)), some (.own ys), some (.val (.int r)), z4, z5, z6] ∧ ys.length ≤ 52 ∧ ∀ e ∈ ys, FlatD e) ?_ fun env ⟨ys, z4, z5, z6, e, hyl, hy⟩ => ?_
    · trivial
      refine ⟨lim_of (by decide), in_flat (d := .int r) True.intro (fun e m => ?_) fun b => ?_⟩
      · simp only [List.mem_cons, List.not_mem_nil, or_false] at m
        rcases m with rfl | rfl <;> exact True.intro
      trivial
      cases b
      · trivial
        refine iteB (fun _ => iteB (fun _ => ?_) (fun _ => ⟨_, _, _, _, rfl, by omega, hy⟩)) (fun _ => ⟨_, _, _, _, rfl, by omega, hy⟩)
        refine take_of (by omega) fun k k0 kx k1 => ?_
        trivial
        refine badname_of fun d hd => ?_
        trivial
        refine ⟨lim_of (by omega), k0, ?_, _, _, _, _, rfl, ?_, fun e m => ?_⟩
        · by_cases c2 : (2 : Int) ≤ (ys.length : Int) + 1
          · have := k1 c2
            omega
          · omega
        · simp only [List.length_append, List.length_take, List.length_drop, List.length_cons, List.length_nil]
          omega
        · rcases List.mem_append.mp m with m | m
          · rcases List.mem_append.mp m with m | m
            · exact hy e (List.mem_of_mem_take m)
            · rw [List.mem_singleton.mp m]
              exact hd
          · exact hy e (List.mem_of_mem_drop m)
      · trivial
        refine take_of (by omega) fun k k0 kx k1 => ?_
        trivial
        refine badname_of fun d hd => ?_
        trivial
        refine ⟨lim_of (by omega), k0, ?_, _, _, _, _, rfl, ?_, fun e m => ?_⟩
        · by_cases c2 : (2 : Int) ≤ (ys.length : Int) + 1
          · have := k1 c2
            omega
          · omega
        · simp only [List.length_append, List.length_take, List.length_drop, List.length_cons, List.length_nil]
          omega
        · rcases List.mem_append.mp m with m | m
          · rcases List.mem_append.mp m with m | m
            · exact hy e (List.mem_of_mem_take m)
            · rw [List.mem_singleton.mp m]
              exact hd
          · exact hy e (List.mem_of_mem_drop m)
    subst e
    trivial
    exact h ys (by omega) hy
  · trivial
    refine shuffled_of rfl (by omega) fun ys hp => ?_
    have hy : ∀ e ∈ ys, FlatD e := fun e m => hf e (hp.mem_iff.mp m)
    have hyl := hp.length_eq
    trivial
    refine take_of (by decide) fun r r0 _ r1 => ?_
    trivial
    refine cut_of (fun env => ∃ (ys : List D) (z4 z5 z6 : Option SV), env = [some .sto, some (.val (.lst ds)), some (.own ys), some (.val (.int r)), z4, z5, z6] ∧ ys.length ≤ 50 ∧ ∀ e ∈ ys, FlatD e) ?_ fun env ⟨ys, z4, z5, z6, e, hyl, hy⟩ => ?_
    · trivial
      refine iteB (fun _ => ?_) (fun _ => ⟨_, _, _, _, rfl, by omega, hy⟩)
      refine take_of (by decide) fun g g0 _ g1 => ?_
      trivial
      refine ⟨by decide, by decide, nn_of (by rw [range_len]; decide), ?_⟩
      refine forW_inv (fun i env => ∃ (ys : List D) (z5 z6 : Option SV), env = [some .sto, some (.val (.lst ds)), some (.own ys), some (.val (.int r)), some (.val (.int (13 + g))), z5, z6] ∧ ys.length ≤ 20 + i ∧ ∀ e ∈ ys, FlatD e) (fun i d env N hi ⟨ys, z5, z6, e, hyl, hy⟩ hN => ?Alst) (fun env ⟨ys, z5, z6, e, hyl, hy⟩ => ?Blst) _ ⟨ys, _, _, rfl, by omega, hy⟩
      case Alst =>
        subst e
        obtain ⟨hj, rfl⟩ := range_at hi
        have hj30 : i < 30 := hj
        obtain ⟨q1, q2, q3⟩ := xn_ok i hj30
        rw [Int.zero_add]
        trivial
        refine iteB (fun _ => ?_) (fun _ => hN _ ⟨ys, _, _, rfl, by omega, hy⟩)
        refine ⟨q3, lim_of (by omega), in_flat (ds := ys) (d := .str _) ⟨by rw [len_add]; omega, allV_lit q2⟩ hy fun b => ?_⟩
        trivial
        cases b
        · trivial
          exact hN _ ⟨ys, _, _, rfl, by omega, hy⟩
        · trivial
          refine ⟨q3, lim_of (by omega), lim_of (by omega), hN _ ⟨_, _, _, rfl, by rw [List.length_append]; simp; omega, fun e m => ?_⟩⟩
          rcases List.mem_append.mp m with m | m
          · exact hy e m
          · rw [List.mem_singleton.mp m]
            exact ⟨by rw [len_add]; omega, allV_lit q2⟩
      case Blst =>
        subst e
        have hyl2 : ys.length ≤ 50 := by
          rw [range_len] at hyl
          exact hyl
        trivial
        refine shuffled_of rfl (by omega) fun zs hz => ?_
        have hzy : ∀ e ∈ zs, FlatD e := fun e m => hy e (hz.mem_iff.mp m)
        trivial
        exact ⟨flats_lf hzy, _, _, _, _, rfl, by rw [hz.length_eq]; exact hyl2, hzy⟩
    subst e
    trivial
    refine cut_of (fun env => ∃ (ys : List D) (z4 z5 z6 : Option SV), env = [some .sto, some (.val (.lst ds)), some (.own ys), some (.val (.int r)), z4, z5, z6] ∧ ys.length ≤ 51 ∧ ∀ e ∈ ys, FlatD e) ?_ fun env ⟨ys, z4, z5, z6, e, hyl, hy⟩ => ?_
    · trivial
      refine ⟨lim_of (by decide), in_flat (d := .int r) True.intro (fun e m => ?_) fun b => ?_⟩
      · simp only [List.mem_cons, List.not_mem_nil, or_false] at m
        rcases m with rfl | rfl | rfl <;> exact True.intro
      trivial
      cases b
      · trivial
        exact ⟨_, _, _, _, rfl, by omega, hy⟩
      trivial
      refine iteB (fun c => ?_) (fun _ => ⟨_, _, _, _, rfl, by omega, hy⟩)
      have c1 := of_decide_eq_true c
      refine pick_lst (by omega) (by omega) fun d hd => ?_
      trivial
      refine ⟨flat_lf (hy d hd), take_of (by omega) fun k k0 kx k1 => ?_⟩
      trivial
      refine ⟨lim_of (by omega), k0, ?_, _, _, _, _, rfl, ?_, fun e m => ?_⟩
      · by_cases c2 : (2 : Int) ≤ (ys.length : Int) + 1
        · have := k1 c2
          omega
        · omega
      · simp only [List.length_append, List.length_take, List.length_drop, List.length_cons, List.length_nil]
        omega
      · rcases List.mem_append.mp m with m | m
        · rcases List.mem_append.mp m with m | m
          · exact hy e (List.mem_of_mem_take m)
          · rw [List.mem_singleton.mp m]
            exact hy d hd
        · exact hy e (List.mem_of_mem_drop m)
    subst e
    trivial
    refine cut_of (fun env => ∃ (ys : List D) (z4 z5 z6 : Option SV), env = [some .sto, some (.val (.lst ds)), some (.own ys), some (.val (.int r)), z4, z5, z6] ∧ ys.length ≤ 52 ∧ ∀ e ∈ ys, FlatD e) ?_ fun env ⟨ys, z4, z5, z6, e, hyl, hy⟩ => ?_
    · trivial
      refine ⟨lim_of (by decide), in_flat (d := .int r) True.intro (fun e m => ?_) fun b => ?_⟩
      · simp only [List.mem_cons, List.not_mem_nil, or_false] at m
        rcases m with rfl | rfl <;> exact True.intro
      trivial
      cases b
      · trivial
        refine iteB (fun _ => iteB (fun _ => ?_) (fun _ => ⟨_, _, _, _, rfl, by omega, hy⟩)) (fun _ => ⟨_, _, _, _, rfl, by omega, hy⟩)
        refine take_of (by omega) fun k k0 kx k1 => ?_
        trivial
        refine badname_of fun d hd => ?_
        trivial
        refine ⟨lim_of (by omega), k0, ?_, _, _, _, _, rfl, ?_, fun e m => ?_⟩
        · by_cases c2 : (2 : Int) ≤ (ys.length : Int) + 1
          · have := k1 c2
            omega
          · omega
        · simp only [List.length_append, List.length_take, List.length_drop, List.length_cons, List.length_nil]
          omega
        · rcases List.mem_append.mp m with m | m
          · rcases List.mem_append.mp m with m | m
            · exact hy e (List.mem_of_mem_take m)
            · rw [List.mem_singleton.mp m]
              exact hd
          · exact hy e (List.mem_of_mem_drop m)
      · trivial
        refine take_of (by omega) fun k k0 kx k1 => ?_
        trivial
        refine badname_of fun d hd => ?_
        trivial
        refine ⟨lim_of (by omega), k0, ?_, _, _, _, _, rfl, ?_, fun e m => ?_⟩
        · by_cases c2 : (2 : Int) ≤ (ys.length : Int) + 1
          · have := k1 c2
            omega
          · omega
        · simp only [List.length_append, List.length_take, List.length_drop, List.length_cons, List.length_nil]
          omega
        · rcases List.mem_append.mp m with m | m
          · rcases List.mem_append.mp m with m | m
            · exact hy e (List.mem_of_mem_take m)
            · rw [List.mem_singleton.mp m]
              exact hd
          · exact hy e (List.mem_of_mem_drop m)
    subst e
    trivial
    exact h ys (by omega) hy
end
end K38
namespace K38
open PySem PySem.Spec L2 DL
section
variable {P : Program} {w : World} {K : PySem.W.Frag} {mg : Str → Option Value} {base : Heap} {A : TxA}
local macro_rules | `(tactic| trivial) => `(tactic| simp -dsimp only [↓W_lst, ↓W_lst1, ↓W_isS, ↓W_bt, ↓W_bc, ↓W_bz, ↓W_asgG, ↓W_valK, ↓W_rg2, ↓W_rg2k, ↓W_lc2, ↓W_ltD, ↓List.zip_cons_cons, ↓List.zip_nil_left, ↓W_lent, ↓W_lent1, ↓W_lent2, ↓W_lent3, ↓W_lent4, ↓W_mulL, ↓W_var, ↓W_var1, ↓W_var2, ↓W_var3, ↓W_c, ↓W_frz, ↓W_frz1, ↓W_frz2, ↓W_frz3, ↓W_frz4, ↓W_op, ↓W_call, ↓W_fn, ↓W_fn0, ↓W_fnK, ↓W_nil, ↓W_cons, ↓W_add1, ↓W_add2, ↓W_add3, ↓W_add4, ↓W_add5, ↓W_add6, ↓W_add7, ↓W_int, ↓W_int0, ↓W_mul1, ↓W_mul2, ↓W_eq1, ↓W_eq2, ↓W_eq3, ↓W_eq4, ↓W_ne1, ↓W_ne2, ↓W_ne3, ↓W_in1, ↓W_in2, ↓W_in3, ↓W_in4, ↓W_in5, ↓W_is1, ↓W_is2, ↓W_at, ↓W_atS, ↓W_ix1, ↓W_ix2, ↓W_ix3, ↓W_ix4, ↓W_sl, ↓W_on, ↓W_os, ↓W_part, ↓W_sl1, ↓W_sl2, ↓W_sl3, ↓W_sl4, ↓W_len1, ↓W_len2, ↓W_len3, ↓W_len4, ↓W_abs, ↓W_intf, ↓W_strf, ↓W_list1, ↓W_list2, ↓W_list3, ↓W_tup1, ↓W_tup2, ↓W_tup3, ↓W_max, ↓W_min, ↓W_allK, ↓W_all1, ↓W_isi1, ↓W_isi2, ↓W_k_ns, ↓W_k_bs, ↓W_k_is, ↓W_k_ss, ↓W_k_ts, ↓W_k_ls, ↓W_k_nb, ↓W_k_bb, ↓W_k_ib, ↓W_k_sb, ↓W_k_tb, ↓W_k_lb, ↓W_k_ni, ↓W_k_bi, ↓W_k_ii, ↓W_k_si, ↓W_k_ti, ↓W_k_li, ↓W_k_nt, ↓W_k_bt, ↓W_k_it, ↓W_k_st, ↓W_k_tt, ↓W_k_lt, ↓W_k_nl, ↓W_k_bl, ↓W_k_il, ↓W_k_sl, ↓W_k_tl, ↓W_k_ll, ↓W_valsK, ↓W_etup, ↓W_elst, ↓W_vals0, ↓W_vals1, ↓W_bool, ↓W_bool1, ↓W_tand, ↓W_tor, ↓W_tnot, ↓W_tru, ↓W_tru1, ↓W_tru2, ↓W_tru3, ↓W_tru4, ↓W_tru5, ↓W_tru6, ↓W_tru7, ↓W_bo, ↓W_eand, ↓W_eor, ↓W_enot, ↓W_ink, ↓W_eneg, ↓W_snil, ↓W_seq, ↓W_asg, ↓W_asg1, ↓W_asg2, ↓W_asg3, ↓W_ret, ↓W_hand1, ↓W_hand2, ↓W_hand3, ↓W_hand4, ↓W_expr, ↓W_if, ↓W_for, ↓W_any, ↓W_it1, ↓W_it2, ↓W_it3, ↓W_rg1, ↓W_lc, ↓W_bn, ↓W_yes, ↓W_ownK, ↓W_mut, ↓W_app, ↓W_ins, ↓W_setK, ↓W_stK, ↓W_setIx, ↓W_strK, ↓W_upper, ↓W_join1, ↓W_start, ↓W_slot1, ↓W_slot2, ↓W_arg1, ↓W_arg2, ↓W_sFrz, ↓W_strb, ↓W_sortK, ↓W_sorted1, ↓W_sorted2, ↓W_sorted3, ↓W_loan, ↓W_lent1, ↓W_lent2, ↓W_lent3, ↓W_lent4, ↓W_lent, ↓W_lfR1, ↓W_lfR2, ↓W_clear, ↓W_reverse, ↓W_extend1, ↓W_extend2, ↓W_intfb, ↓W_sidx, ↓W_raiseK, ↓W_raise, ↓W_try, ↓W_isPK, ↓W_fld, ↓W_errK, ↓W_errO, ↓W_cut, ↓W_startL, ↓W_rev3, ↓W_lrev, ↓W_revK1, ↓W_revK2, ↓W_rev2, ↓W_keepL, ↓W_mk, ↓W_mkKw, ↓W_ini0, ↓W_ini1, ↓W_ini2, ↓W_blK, ↓W_lnK, ↓W_lbK, ↓W_inO, ↓W_lenO, ↓W_boolO, ↓W_eqA, ↓W_isO, ↓W_prop, ↓W_prK, ↓W_itO, ↓W_lcX, ↓W_inD1, ↓W_inD2, ↓W_inD3, ↓W_en, ↓W_en1, ↓W_en2, ↓W_bt, ↓W_bc, ↓W_bz, ↓W_chK, ↓W_chain, ↓W_startO, ↓W_slotO1, ↓W_slotO2, ↓W_slotO3, ↓W_tKeep, ↓W_tOrE, ↓W_tAndE, ↓W_tNotE, ↓W_ifE, ↓W_anyI, ↓W_anyK, ↓W_meth, ↓W_mtK, ↓W_meth0, ↓W_mt0K, ↓W_methK, ↓W_mtkK, ↓W_bare0, ↓W_bare1, ↓W_trev, ↓W_trK, ↓W_obj, ↓W_mkK, ↓W_sortedD1, ↓W_sortedD2, ↓W_sortedD3, ↓W_raise2, ↓W_raiseK2, ↓W_setOf1, ↓W_setOf2, ↓W_setOf3, ↓W_sc, endsD, endsTry, wipeE, List.foldr_cons, List.foldr_nil, List.length_cons, List.length_nil, List.map_cons, List.map_nil, List.cons_append, List.nil_append, List.append_nil, List.replicate, List.getElem?_cons_zero, List.getElem?_cons_succ, List.getElem?_nil, List.set_cons_zero, List.set_cons_succ, Nat.reduceAdd, Nat.reduceSub, Nat.zero_add, if_true, if_false, Bool.false_eq_true, Bool.not_true, Bool.not_false, true_and, and_true, List.forall_mem_cons, List.mem_cons, List.not_mem_nil, or_false, forall_eq_or_imp, forall_eq, false_and, and_false, implies_true, false_or, Option.map_some, Option.map_none, ite_self, Bool.and_true, Bool.true_and, Bool.and_false, Bool.false_and, List.forall_mem_nil, decide_true, decide_false, isNonD, signsD, lf, lfL, eq_self])
abbrev sp__law_asked : FD := askedF
theorem mono__law_asked : MonoF sp__law_asked := mono_askedF
theorem ok__law_asked (T : Tx K mg A) : FnOk P w K mg base (L2N.CX P w) 7 A.a__law_asked A.f__law_asked ["items"] (spD K 1 sp__law_asked) := by
  refine fn_okD T.F__law_asked sc__law_asked (by decide) (fun cdv A0 outer s H E g hK hr cy => ?_)
  refine ⟨_, _, (dss_cons (ds_asg 1 (DE.frz (de_call cy (ok__law_copied T 5) (mono__law_copied 5) (hr.mono (by decide)) (by rfl) T.m__law_copied T.F__law_copied.kp T.b__law_copied (da_cons (de_var 0) da_nil))) sc__law_asked.nd)
    (dss_cons (ds_asg 2 (DE.frz (de_call cy (ok__law_namesdue T) mono__law_namesdue (hr.mono (by decide)) (by rfl) T.m__law_namesdue T.F__law_namesdue.kp T.b__law_namesdue (da_cons (de_var 0) da_nil))) sc__law_asked.nd)
    (dss_cut (ds_if (DW.dt (dw_and (dt_is cy (de_var 2) de_non) (dw_and1 (dt_gt cy (de_len cy (by rfl) T.m_len (de_var 0)) de_int)))) (dss_one (ds_asg 2 (DE.frz (de_tup (da_cons de_str (da_cons de_int da_nil)))) sc__law_asked.nd)) dss_nil)
    (dss_cons (ds_asg 3 (DE.frz (de_call cy (ok__law_answer T) mono__law_answer (hr.mono (by decide)) (by rfl) T.m__law_answer T.F__law_answer.kp T.b__law_answer (da_cons (de_var 0) da_nil))) sc__law_asked.nd)
    (dss_cons (ds_if (DW.dt (dw_or (dt_not (dt_tru cy (de_call cy (ok__law_same T 5) (mono__law_same 5) (hr.mono (by decide)) (by rfl) T.m__law_same T.F__law_same.kp T.b__law_same (da_cons (de_var 0) (da_cons (de_var 1) da_nil))))) (dw_or1 (dt_is cy (de_var 3) de_non)))) (dss_one (ds_ret de_bl)) dss_nil)
    (dss_cons (ds_if (dt_isnot cy (de_var 2) de_non) (dss_one (ds_ret (de_call cy (ok__law_same T 5) (mono__law_same 5) (hr.mono (by decide)) (by rfl) T.m__law_same T.F__law_same.kp T.b__law_same (da_cons (de_var 3) (da_cons (de_var 2) da_nil))))) dss_nil)
    (dss_one (ds_ret (de_and (de_eq cy (de_item cy (de_var 3) de_int) de_str) (de_one (de_call cy (ok__law_isall T) mono__law_isall (hr.mono (by decide)) (by rfl) T.m__law_isall T.F__law_isall.kp T.b__law_isall (da_cons (de_item cy (de_var 3) de_int) (da_cons (de_sorted cy (by rfl) T.m_sorted (de_var 0)) da_nil))))))))))))), fun rs Q Ex hlen h => ?_⟩
  obtain ⟨d, ds, rfl, hd, hf, h⟩ := h
  have dd : DeepD 5 d := seq_deep hd hf
  trivial
  refine copied_f dd ?_
  trivial
  refine namesdue_of hd hf.1 hf.2 ?_
  trivial
  refine cut_of (fun env => env = [some (.val d), some (.val d), some (.val (dueD (allpDue ds))), none]) ?_ fun env e => ?_
  · have hz : allpDue ds = orDue (namesDue ds) (fewDue ds.length 7) := rfl
    have hl : ds.length ≤ 900 := hf.1
    cases hx : namesDue ds with
    | none =>
      rw [hx] at hz
      have hz : allpDue ds = fewDue ds.length 7 := hz
      rw [hz]
      have hl7 : fewDue ds.length 7 = if (7 : Int) < (ds.length : Int) then some ⟨.tooMany, [.int 7]⟩ else none := rfl
      rw [hl7]
      cases d <;> simp only [seqD, Option.some.injEq, reduceCtorEq] at hd <;> subst hd
      all_goals
        trivial
        refine iteB (fun _ => ?_) (fun c => Bool.noConfusion (show true = false from c))
        refine iteB (fun c => ?_) (fun c => ?_)
        · have c := of_decide_eq_true c
          rw [if_pos (by omega)]
          exact ⟨lim_of (by decide), rfl⟩
        · have c := of_decide_eq_false c
          rw [if_neg (by omega)]
    | some e =>
      rw [hx] at hz
      have hz : allpDue ds = some e := hz
      rw [hz]
      trivial
      exact iteB (fun c => Bool.noConfusion (show false = true from c)) (fun _ => True.intro)
  subst e
  trivial
  refine answer_of hd hf ?_
  cases hx : allpDue ds with
  | some e =>
    have e1 := allp_one hf.2 hx
    trivial
    refine same_of dd rfl ?_
    trivial
    refine iteB (fun c => Bool.noConfusion (show false = true from c)) (fun _ => ?_)
    refine iteB (fun _ => ?_) (fun c => Bool.noConfusion (show true = false from c))
    refine same_of e1.deep rfl ?_
    exact h
  | none =>
    obtain ⟨ss, rfl, ok, l7⟩ := allp_none hx
    trivial
    refine same_of dd rfl ?_
    trivial
    refine iteB (fun c => Bool.noConfusion (show false = true from c)) (fun _ => ?_)
    refine atK_at (j := 0) rfl ?_
    trivial
    refine atK_at (j := 1) rfl ?_
    cases d <;> simp only [seqD, Option.some.injEq, reduceCtorEq] at hd <;> subst hd
    all_goals
      trivial
      rw [strsOf_map, strsD_map]
      trivial
      refine ⟨lim_of (by omega), isall_of ⟨sortS_ok ok, sortS_id (sortS_pw ss)⟩ (by rw [sortS_len]; exact l7) ?_⟩
      exact h
end
end K38
namespace K38
open PySem PySem.Spec L2 DL
section
variable {P : Program} {w : World} {K : PySem.W.Frag} {mg : Str → Option Value} {base : Heap} {A : TxA}
local macro_rules | `(tactic| trivial) => `(tactic| simp -dsimp only [↓W_lst, ↓W_lst1, ↓W_isS, ↓W_bt, ↓W_bc, ↓W_bz, ↓W_asgG, ↓W_valK, ↓W_rg2, ↓W_rg2k, ↓W_lc2, ↓W_ltD, ↓List.zip_cons_cons, ↓List.zip_nil_left, ↓W_lent, ↓W_lent1, ↓W_lent2, ↓W_lent3, ↓W_lent4, ↓W_mulL, ↓W_var, ↓W_var1, ↓W_var2, ↓W_var3, ↓W_c, ↓W_frz, ↓W_frz1, ↓W_frz2, ↓W_frz3, ↓W_frz4, ↓W_op, ↓W_call, ↓W_fn, ↓W_fn0, ↓W_fnK, ↓W_nil, ↓W_cons, ↓W_add1, ↓W_add2, ↓W_add3, ↓W_add4, ↓W_add5, ↓W_add6, ↓W_add7, ↓W_int, ↓W_int0, ↓W_mul1, ↓W_mul2, ↓W_eq1, ↓W_eq2, ↓W_eq3, ↓W_eq4, ↓W_ne1, ↓W_ne2, ↓W_ne3, ↓W_in1, ↓W_in2, ↓W_in3, ↓W_in4, ↓W_in5, ↓W_is1, ↓W_is2, ↓W_at, ↓W_atS, ↓W_ix1, ↓W_ix2, ↓W_ix3, ↓W_ix4, ↓W_sl, ↓W_on, ↓W_os, ↓W_part, ↓W_sl1, ↓W_sl2, ↓W_sl3, ↓W_sl4, ↓W_len1, ↓W_len2, ↓W_len3, ↓W_len4, ↓W_abs, ↓W_intf, ↓W_strf, ↓W_list1, ↓W_list2, ↓W_list3, ↓W_tup1, ↓W_tup2, ↓W_tup3, ↓W_max, ↓W_min, ↓W_allK, ↓W_all1, ↓W_isi1, ↓W_isi2, ↓W_k_ns, ↓W_k_bs, ↓W_k_is, ↓W_k_ss, ↓W_k_ts, ↓W_k_ls, ↓W_k_nb, ↓W_k_bb, ↓W_k_ib, ↓W_k_sb, ↓W_k_tb, ↓W_k_lb, ↓W_k_ni, ↓W_k_bi, ↓W_k_ii, ↓W_k_si, ↓W_k_ti, ↓W_k_li, ↓W_k_nt, ↓W_k_bt, ↓W_k_it, ↓W_k_st, ↓W_k_tt, ↓W_k_lt, ↓W_k_nl, ↓W_k_bl, ↓W_k_il, ↓W_k_sl, ↓W_k_tl, ↓W_k_ll, ↓W_valsK, ↓W_etup, ↓W_elst, ↓W_vals0, ↓W_vals1, ↓W_bool, ↓W_bool1, ↓W_tand, ↓W_tor, ↓W_tnot, ↓W_tru, ↓W_tru1, ↓W_tru2, ↓W_tru3, ↓W_tru4, ↓W_tru5, ↓W_tru6, ↓W_tru7, ↓W_bo, ↓W_eand, ↓W_eor, ↓W_enot, ↓W_ink, ↓W_eneg, ↓W_snil, ↓W_seq, ↓W_asg, ↓W_asg1, ↓W_asg2, ↓W_asg3, ↓W_ret, ↓W_hand1, ↓W_hand2, ↓W_hand3, ↓W_hand4, ↓W_expr, ↓W_if, ↓W_for, ↓W_any, ↓W_it1, ↓W_it2, ↓W_it3, ↓W_rg1, ↓W_lc, ↓W_bn, ↓W_yes, ↓W_ownK, ↓W_mut, ↓W_app, ↓W_ins, ↓W_setK, ↓W_stK, ↓W_setIx, ↓W_strK, ↓W_upper, ↓W_join1, ↓W_start, ↓W_slot1, ↓W_slot2, ↓W_arg1, ↓W_arg2, ↓W_sFrz, ↓W_strb, ↓W_sortK, ↓W_sorted1, ↓W_sorted2, ↓W_sorted3, ↓W_loan, ↓W_lent1, ↓W_lent2, ↓W_lent3, ↓W_lent4, ↓W_lent, ↓W_lfR1, ↓W_lfR2, ↓W_clear, ↓W_reverse, ↓W_extend1, ↓W_extend2, ↓W_intfb, ↓W_sidx, ↓W_raiseK, ↓W_raise, ↓W_try, ↓W_isPK, ↓W_fld, ↓W_errK, ↓W_errO, ↓W_cut, ↓W_startL, ↓W_rev3, ↓W_lrev, ↓W_revK1, ↓W_revK2, ↓W_rev2, ↓W_keepL, ↓W_mk, ↓W_mkKw, ↓W_ini0, ↓W_ini1, ↓W_ini2, ↓W_blK, ↓W_lnK, ↓W_lbK, ↓W_inO, ↓W_lenO, ↓W_boolO, ↓W_eqA, ↓W_isO, ↓W_prop, ↓W_prK, ↓W_itO, ↓W_lcX, ↓W_inD1, ↓W_inD2, ↓W_inD3, ↓W_en, ↓W_en1, ↓W_en2, ↓W_bt, ↓W_bc, ↓W_bz, ↓W_chK, ↓W_chain, ↓W_startO, ↓W_slotO1, ↓W_slotO2, ↓W_slotO3, ↓W_tKeep, ↓W_tOrE, ↓W_tAndE, ↓W_tNotE, ↓W_ifE, ↓W_anyI, ↓W_anyK, ↓W_meth, ↓W_mtK, ↓W_meth0, ↓W_mt0K, ↓W_methK, ↓W_mtkK, ↓W_bare0, ↓W_bare1, ↓W_trev, ↓W_trK, ↓W_obj, ↓W_mkK, ↓W_sortedD1, ↓W_sortedD2, ↓W_sortedD3, ↓W_raise2, ↓W_raiseK2, ↓W_setOf1, ↓W_setOf2, ↓W_setOf3, ↓W_sc, endsD, endsTry, wipeE, List.foldr_cons, List.foldr_nil, List.length_cons, List.length_nil, List.map_cons, List.map_nil, List.cons_append, List.nil_append, List.append_nil, List.replicate, List.getElem?_cons_zero, List.getElem?_cons_succ, List.getElem?_nil, List.set_cons_zero, List.set_cons_succ, Nat.reduceAdd, Nat.reduceSub, Nat.zero_add, if_true, if_false, Bool.false_eq_true, Bool.not_true, Bool.not_false, true_and, and_true, List.forall_mem_cons, List.mem_cons, List.not_mem_nil, or_false, forall_eq_or_imp, forall_eq, false_and, and_false, implies_true, false_or, Option.map_some, Option.map_none, ite_self, Bool.and_true, Bool.true_and, Bool.and_false, Bool.false_and, List.forall_mem_nil, decide_true, decide_false, isNonD, signsD, lf, lfL, eq_self])
theorem ok__law_store (T : Tx K mg A) : FnOk P w K mg base (L2N.CX P w) 1 A.a__law_store A.f__law_store ["script"] (storeSp K) := by
  refine T.F__law_store.okN sc__law_store (fun vs H Q E h => ?_) (fun cdv A0 outer s H vs Q E hr h => ?_)
  · obtain ⟨a, ns, rfl, _⟩ := h
    rfl
  · obtain ⟨a, ns, rfl, hS, hl, hf⟩ := h
    have tk : L2N.Takes (cxOf (L2N.CX P w) P w K mg base N__law_store "_law_store" (defScope s__law_store) A.a__law_store cdv A0 outer s H E) (fun cls d _ H => E cls d H) := L2N.takes_of rfl rfl rfl rfl
    refine ⟨_, pss_cons (ps_setLc (i := 1) (own := [("cell", 3)]) rfl sc__law_store.nd rfl rfl (sw_true rfl rfl rfl rfl) (pi_list (pe_slice sl_list (pv 0) po_none (po_some pe_int))) (blkOk_by (own := [("cell", 3)]) (N := N__law_store) (sc := defScope s__law_store) (by decide +kernel))
        (fun _ _ _ _ _ => pg_name (i := 3) sc__law_store.nd rfl (by first | exact Or.inl rfl | exact Or.inr rfl)) (fun _ _ _ _ _ => pts_nil) (fun _ _ _ _ _ => pe_callTy call_int1 (by rfl) T.m_int (by decide +kernel) (pa_cons (pv 3) pa_nil)))
      (pss_cons (ps_set (i := 2) sc__law_store.nd rfl (.inl rfl) pe_int)
      (pss_cons (ps_for (by exact (passes_of rfl)) rfl (pi_list (pv 1)) (pg_name (i := 3) sc__law_store.nd rfl (.inl rfl)) (pss_one (ps_set (i := 2) sc__law_store.nd rfl (.inl rfl)
        (pe_op op_modN (pe_callTy call_int1 (by rfl) T.m_int (by decide +kernel) (pa_cons (pe_op op_add (pe_op op_add (pe_op op_mul (pv 2) pe_int) (pe_op op_modN (pe_callTy call_int1 (by rfl) T.m_int (by decide +kernel) (pa_cons (pv 3) pa_nil)) pe_int)) pe_int) pa_nil)) pe_int))))
      (pss_one (ps_ret (pe_lst (pa_cons (pv 1) (pa_cons pe_int (pa_cons pe_int (pa_cons (pv 2) (pa_cons pe_int pa_nil)))))))))), ?_⟩
    have ec : cutV (ns.map V.int) none (some 63) = ns.map V.int := by
      unfold cutV
      rw [HT.sIx_none, show (63 : Int) = ((63 : Nat) : Int) from rfl, HT.sIx_nat, List.length_map, List.drop_zero]
      exact List.take_of_length_le (by rw [List.length_map]; omega)
    refine ⟨_, rfl, 63, rfl, ⟨a, _, rfl, hS, fun p hp => ⟨p, rfl, ⟨_, .inl (.inl upd_same)⟩, fun D hD => ?_⟩⟩⟩
    rw [ec] at hD ⊢
    have nDp : D ≠ p := fun z => by subst z; rw [upd_same] at hD; cases hD
    have hD0 : H D = none := by rwa [upd_ne nDp] at hD
    refine lc_list (a := p) (xs := ns.map V.int) (fun i H' => H' = upd (upd H p (.lst (ns.map V.int))) D (.lst ((ns.take i).map V.int))) rfl (fun i H' _ e => ?_) (fun i x H' hx e => ?_) (fun H' e => ?_)
    · subst e
      exact .inl (.inl (by rw [upd_ne nDp.symm, upd_same]))
    · subst e
      rw [List.getElem?_map] at hx
      obtain ⟨z, hz, rfl⟩ := Option.map_eq_some_iff.mp hx
      refine ⟨rfl, ?_⟩
      refine ⟨_, rfl, .inl ⟨z, rfl, ⟨_, upd_same, ?_, ?_⟩⟩⟩
      · rw [List.length_map, List.length_take]
        exact Nat.lt_of_le_of_lt (Nat.min_le_right _ _) (Nat.lt_of_le_of_lt hl (by decide))
      · rw [upd_upd, List.take_add_one, hz, List.map_append]
        rfl
    · subst e
      rw [List.length_map, List.take_length]
      have sD : SqL K (upd (upd H p (.lst (ns.map V.int))) D (.lst (ns.map V.int))) D (ns.map V.int) := .inl (.inl upd_same)
      refine ⟨_, rfl, D, rfl, ⟨_, sD⟩, for_list (a := D) (xs := ns.map V.int) (fun i σ H' => ∃ y3 sd, σ = [some (.ref a), some (.ref D), some (.int sd), y3] ∧ 0 ≤ sd ∧ sd < 2147483648 ∧ H' = upd (upd H p (.lst (ns.map V.int))) D (.lst (ns.map V.int))) ⟨_, 30011, rfl, by decide, by decide, rfl⟩ (fun i σ H' _ q => ?_) (fun i x σ H' hx q => ?_) (fun σ H' q => ?_)⟩
      · obtain ⟨y3, sd, rfl, h0, h1, rfl⟩ := q
        exact sD
      · obtain ⟨y3, sd, rfl, h0, h1, rfl⟩ := q
        rw [List.getElem?_map] at hx
        obtain ⟨z, hz, rfl⟩ := Option.map_eq_some_iff.mp hx
        exact ⟨_, rfl, sd, 48271, rfl, rfl, .inr ⟨by decide, by decide⟩, _, rfl, .inl ⟨z, rfl, z, 2147483647, rfl, rfl, (show (2147483647 : Int) ≠ 0 by decide), _, _, rfl, rfl, _, _, rfl, rfl, .inl ⟨_, rfl, _, 2147483629, rfl, rfl, (show (2147483629 : Int) ≠ 0 by decide), ⟨_, _, rfl, Int.fmod_nonneg_of_pos _ (by decide), Int.lt_trans (Int.fmod_lt_of_pos _ (by decide)) (by decide), rfl⟩⟩⟩⟩
      · obtain ⟨y3, sd, rfl, h0, h1, rfl⟩ := q
        refine ⟨_, rfl, _, rfl, (show (5 : Nat) ≤ _ by decide), fun st hst => ?_⟩
        have nD : st ≠ D := fun z => by subst z; rw [upd_same] at hst; cases hst
        rw [upd_ne nD] at hst
        have np : st ≠ p := fun z => by subst z; rw [upd_same] at hst; cases hst
        rw [upd_ne np] at hst
        refine hf _ st D sd (fun b o e => ?_) hst hD0 nD.symm upd_same (by rw [upd_ne nD.symm, upd_same]) h0 h1
        rw [upd_ne (ne_of_none e hst), upd_ne (ne_of_none e hD0), upd_ne (ne_of_none e hp)]
        exact e
theorem xn_ok61 : ∀ k < 61, (Str.ofString "x").length + (Str.ofString (toString ((k : Nat) : Int))).length ≤ 8 ∧ litV (Str.ofString "x" ++ Str.ofString (toString ((k : Nat) : Int))) = true ∧ ((k : Nat) : Int).natAbs.log2 < 1920 := by decide +kernel
theorem ok_law (T : Tx K mg A) : FnOk P w K mg base (L2N.CX P w) 8 A.a_law A.f_law ["script"] (spLaw K) := by
  have ST := ok__law_store (P := P) (w := w) (base := base) T
  refine T.F_law.okN sc_law (fun vs H Q E h => ?_) (fun cdv A0 outer s H vs Q E hr h => ?_)
  · obtain ⟨a, ns, rfl, _⟩ := h
    rfl
  · obtain ⟨a, ns, rfl, hS, hl, hq⟩ := h
    have tk : L2N.Takes (cxOf (L2N.CX P w) P w K mg base N_law "law" (defScope s_law) A.a_law cdv A0 outer s H E) (fun cls d _ H => E cls d H) := L2N.takes_of rfl rfl rfl rfl
    have cyG : ∀ g : G, g.K = K → Cy (cxOf (L2N.CX P w) P w K mg base N_law "law" (defScope s_law) A.a_law cdv A0 outer s H E) g (fun cls d _ H => E cls d H) := fun g hg => ⟨hg.symm, L2N.takes_of rfl rfl rfl rfl, by have := hr.un; show (A0.deeper (PyProof.Rows.envOfC "law" (defScope s_law) s.heap.objs.size A.a_law cdv)).units + 66 < cLine; omega, passes_of rfl⟩
    refine ⟨_, pss_cons (ps_set (i := 1) sc_law.nd rfl (by first | exact Or.inl rfl | exact Or.inr rfl) (pe_callS ST (hr.mono (by decide)) (by rfl) T.m__law_store T.F__law_store.kp T.b__law_store (fun σ => L2N.passAt tk σ) (pa_cons (pv 0) pa_nil)))
      (pss_frz (pss_ex (α := G) (p := fun g => g.K = K) (fun g hg => have cy := cyG g hg; ((dss_cons (ds_asg 2 (DE.frz (de_call cy (ok__law_names T) mono__law_names (hr.mono (by decide)) (by rfl) T.m__law_names T.F__law_names.kp T.b__law_names (da_cons (de_var 1) (da_cons (de_call cy (ok__law_count T) mono__law_count (hr.mono (by decide)) (by rfl) T.m__law_count T.F__law_count.kp T.b__law_count (da_cons (de_var 1) (da_cons de_int da_nil))) da_nil)))) sc_law.nd)
    (dss_cons (ds_asg 3 (DE.frz (de_call cy (ok__law_names T) mono__law_names (hr.mono (by decide)) (by rfl) T.m__law_names T.F__law_names.kp T.b__law_names (da_cons (de_var 1) (da_cons (de_call cy (ok__law_number T) mono__law_number (hr.mono (by decide)) (by rfl) T.m__law_number T.F__law_number.kp T.b__law_number (da_cons (de_var 1) (da_cons de_int (da_cons de_int da_nil)))) da_nil)))) sc_law.nd)
    (dss_cons (ds_asg 4 (DE.frz (de_call cy (ok__law_bentnames T) mono__law_bentnames (hr.mono (by decide)) (by rfl) T.m__law_bentnames T.F__law_bentnames.kp T.b__law_bentnames (da_cons (de_var 1) (da_cons (de_call cy (ok__law_pick T) mono__law_pick (hr.mono (by decide)) (by rfl) T.m__law_pick T.F__law_pick.kp T.b__law_pick (da_cons (de_var 1) (da_cons (de_lst (da_cons (de_var 2) (da_cons (de_var 3) da_nil))) da_nil))) da_nil)))) sc_law.nd)
    (dss_cons (ds_asg 5 (DE.frz (de_call cy (ok__law_badnumber T) mono__law_badnumber (hr.mono (by decide)) (by rfl) T.m__law_badnumber T.F__law_badnumber.kp T.b__law_badnumber (da_cons (de_var 1) (da_cons de_int (da_cons de_int (da_cons de_bl da_nil)))))) sc_law.nd)
    (dss_cut (ds_asg 6 (DE.frz (de_call cy (ok__law_passed T) mono__law_passed (hr.mono (by decide)) (by rfl) T.m__law_passed T.F__law_passed.kp T.b__law_passed (da_cons (de_var 1) (da_cons (de_var 2) da_nil)))) sc_law.nd)
    (dss_cut (ds_asg 7 (DE.frz (de_call cy (ok__law_passed T) mono__law_passed (hr.mono (by decide)) (by rfl) T.m__law_passed T.F__law_passed.kp T.b__law_passed (da_cons (de_var 1) (da_cons (de_var 3) da_nil)))) sc_law.nd)
    (dss_cons (ds_asg 8 (DE.frz (de_call cy (ok__law_few T) mono__law_few (hr.mono (by decide)) (by rfl) T.m__law_few T.F__law_few.kp T.b__law_few (da_cons (de_var 1) (da_cons (de_var 2) (da_cons (de_call cy (ok__law_take T) mono__law_take (hr.mono (by decide)) (by rfl) T.m__law_take T.F__law_take.kp T.b__law_take (da_cons (de_var 1) (da_cons (de_len cy (by rfl) T.m_len (de_var 2)) da_nil))) da_nil))))) sc_law.nd)
    (dss_cons (ds_asg 9 (de_call cy (ok__law_shuffled T) mono__law_shuffled (hr.mono (by decide)) (by rfl) T.m__law_shuffled T.F__law_shuffled.kp T.b__law_shuffled (da_cons (de_var 1) (da_cons (de_lc cy (own := [("k", 10)]) sc_law.nd (di_range1 (by rfl) T.m_range (da_cons (de_add cy de_int (de_call cy (ok__law_take T) mono__law_take (hr.mono (by decide)) (by rfl) T.m__law_take T.F__law_take.kp T.b__law_take (da_cons (de_var 1) (da_cons de_int da_nil)))) da_nil)) (blkOk_by (own := [("k", 10)]) (N := N_law) (sc := defScope s_law) (by decide +kernel)) (fun _ _ _ _ _ cy => (dg_name 10 sc_law.nd)) (fun _ _ _ _ _ cy => dts_nil) (fun _ _ _ _ _ cy => (de_add cy de_str (de_strf cy (by rfl) T.m_str (de_var 10))))) da_nil))) sc_law.nd)
    (dss_cut (ds_if (dt_tru cy (de_call cy (ok__law_once T) mono__law_once (hr.mono (by decide)) (by rfl) T.m__law_once T.F__law_once.kp T.b__law_once (da_cons (de_var 1) (da_cons de_int da_nil)))) (dss_one (ds_append cy 9 (pv 9) (de_call cy (ok__law_pick T) mono__law_pick (hr.mono (by decide)) (by rfl) T.m__law_pick T.F__law_pick.kp T.b__law_pick (da_cons (de_var 1) (da_cons (de_lst (da_cons (de_item cy (de_var 9) de_int) (da_cons de_str (da_cons de_str (da_cons de_int (da_cons (de_call cy (ok__law_badname T) mono__law_badname (hr.mono (by decide)) (by rfl) T.m__law_badname T.F__law_badname.kp T.b__law_badname (da_cons (de_var 1) da_nil)) da_nil)))))) da_nil))))) dss_nil)
    (dss_cons (ds_if (DW.dt (dw_or (dt_not (dt_tru cy (de_call cy (ok__law_asked T) mono__law_asked (hr.mono (by decide)) (by rfl) T.m__law_asked T.F__law_asked.kp T.b__law_asked (da_cons (de_var 6) da_nil)))) (dw_or (dt_not (dt_tru cy (de_call cy (ok__law_asked T) mono__law_asked (hr.mono (by decide)) (by rfl) T.m__law_asked T.F__law_asked.kp T.b__law_asked (da_cons (de_var 7) da_nil)))) (dw_or (dt_not (dt_tru cy (de_call cy (ok__law_asked T) mono__law_asked (hr.mono (by decide)) (by rfl) T.m__law_asked T.F__law_asked.kp T.b__law_asked (da_cons (de_var 4) da_nil)))) (dw_or1 (dt_not (dt_tru cy (de_call cy (ok__law_asked T) mono__law_asked (hr.mono (by decide)) (by rfl) T.m__law_asked T.F__law_asked.kp T.b__law_asked (da_cons (de_var 8) da_nil))))))))) (dss_one (ds_ret de_bl)) dss_nil)
    (dss_cons (ds_if (DW.dt (dw_or (dt_not (dt_tru cy (DE.loan (de_call cy (ok__law_asked T) mono__law_asked (hr.mono (by decide)) (by rfl) T.m__law_asked T.F__law_asked.kp T.b__law_asked (da_cons (de_var 9) da_nil))))) (dw_or1 (dt_not (dt_tru cy (de_call cy (ok__law_isall T) mono__law_isall (hr.mono (by decide)) (by rfl) T.m__law_isall T.F__law_isall.kp T.b__law_isall (da_cons (de_callK cy (ok_all_partings T) mono_all_partings (hr.mono (by decide)) (by rfl) T.m_all_partings T.F_all_partings.kp T.kb_all_partings_names (dk_cons (de_var 8) dk_nil)) (da_cons (de_sorted cy (by rfl) T.m_sorted (de_var 8)) da_nil)))))))) (dss_one (ds_ret de_bl)) dss_nil)
    (dss_cons (ds_if (dt_not (dt_tru cy (de_call cy (ok__law_same T 5) (mono__law_same 5) (hr.mono (by decide)) (by rfl) T.m__law_same T.F__law_same.kp T.b__law_same (da_cons (de_call cy (ok__law_counted T) mono__law_counted (hr.mono (by decide)) (by rfl) T.m__law_counted T.F__law_counted.kp T.b__law_counted (da_cons (de_var 5) da_nil)) (da_cons (de_tup (da_cons de_str (da_cons (de_var 5) da_nil))) da_nil))))) (dss_one (ds_ret de_bl)) dss_nil)
    (dss_cons (ds_for cy (di_range1 (by rfl) T.m_range (da_cons de_int da_nil)) (dg_name 10 sc_law.nd) (dss_cons (ds_if (dt_not (dt_tru cy (de_call cy (ok__law_same T 5) (mono__law_same 5) (hr.mono (by decide)) (by rfl) T.m__law_same T.F__law_same.kp T.b__law_same (da_cons (de_call cy (ok__law_counted T) mono__law_counted (hr.mono (by decide)) (by rfl) T.m__law_counted T.F__law_counted.kp T.b__law_counted (da_cons (de_var 10) da_nil)) (da_cons (de_tup (da_cons de_str (da_cons (de_call cy (ok__law_many T) mono__law_many (hr.mono (by decide)) (by rfl) T.m__law_many T.F__law_many.kp T.b__law_many (da_cons (de_var 10) da_nil)) da_nil))) da_nil))))) (dss_one (ds_ret de_bl)) dss_nil)
    (dss_one (ds_if (dt_not (dt_tru cy (de_call cy (ok__law_same T 5) (mono__law_same 5) (hr.mono (by decide)) (by rfl) T.m__law_same T.F__law_same.kp T.b__law_same (da_cons (de_callK cy (ok_count_partings T) mono_count_partings (hr.mono (by decide)) (by rfl) T.m_count_partings T.F_count_partings.kp T.kb_count_partings_count (dk_cons (de_var 10) dk_nil)) (da_cons (de_call cy (ok__law_many T) mono__law_many (hr.mono (by decide)) (by rfl) T.m__law_many T.F__law_many.kp T.b__law_many (da_cons (de_var 10) da_nil)) da_nil))))) (dss_one (ds_ret de_bl)) dss_nil))))
    (dss_one (ds_ret (de_call cy (ok__law_asked T) mono__law_asked (hr.mono (by decide)) (by rfl) T.m__law_asked T.F__law_asked.kp T.b__law_asked (da_cons (de_var 6) da_nil)))))))))))))))))).ps))), ?_⟩
    refine ⟨_, rfl, a, ns, rfl, hS, hl, fun H1 st c sd e1 n1 n2 ncs x1 x2 s0 s1 => ?_⟩
    refine ⟨c, _, x2, fun o => ?_⟩
    have y1 : upd H1 c (.frz o (.lst (ns.map V.int))) st = some (.lst [.ref c, .int 0, .int 0, .int sd, .int 0]) := by rw [upd_ne ncs.symm]; exact x1
    generalize hH2 : upd H1 c (.frz o (.lst (ns.map V.int))) = H2 at y1 ⊢
    have y2 : H2 c = some (.frz o (.lst (ns.map V.int))) := by rw [← hH2, upd_same]
    refine ⟨⟨K, st, but st H2, H2⟩, rfl, 0, but st H2, startL 9, Nat.le_refl _, ok_startL y1 y2 ncs hl s0 s1, ?_⟩
    have hrt : ∀ {T : Nat} {F : Hp} {D : Ends}, D.rt = Q → (enS ⟨K, st, but st H2, H2⟩ (fun cls d _ H => E cls d H) T F D).rt (.val (.bl true)) := fun {T F D} e F' H' v w s r => by
      rw [e]
      have ev : v = .bl true := by simpa only [RetR, Rep] using r
      subst ev
      exact hq H'
    generalize hA : enS _ _ _ _ _ = AA
    have hrt : AA.rt (.val (.bl true)) := by rw [← hA]; exact hrt rfl
    clear hA
    trivial
    refine countN_of (by decide) (by decide) fun k k0 k7 => ?_
    trivial
    refine names_of (by omega) (by omega) fun sn so1 so2 ln => ?_
    have so : SetOk sn := ⟨so1, so2⟩
    have l7 : sn.length ≤ 7 := by omega
    trivial
    refine number_of (by decide) (by decide) fun k2 k20 k21 => ?_
    trivial
    refine names_of (by omega) (by omega) fun wn wo1 wo2 lw => ?_
    have wo : SetOk wn := ⟨wo1, wo2⟩
    have l12 : wn.length ≤ 12 := by omega
    have fs : FlatL (sn.map D.str) := ⟨by rw [List.length_map]; omega, strs_flat so1.1⟩
    have fw : FlatL (wn.map D.str) := ⟨by rw [List.length_map]; omega, strs_flat wo1.1⟩
    trivial
    refine ⟨lim_of (by decide), pick_lst (by simp) (by simp) fun d hd => ?_⟩
    obtain ⟨bs, rfl, bo, bl⟩ : ∃ bs : List Str, d = .lst (bs.map D.str) ∧ (∀ s ∈ bs, isNameS s = true) ∧ bs.length ≤ 12 := by
      simp only [List.mem_cons, List.not_mem_nil, or_false] at hd
      rcases hd with rfl | rfl
      · exact ⟨sn, rfl, so1.1, by omega⟩
      · exact ⟨wn, rfl, wo1.1, l12⟩
    trivial
    refine bent_of rfl (by rw [List.length_map]; omega) (strs_flat bo) fun bd lb fb => ?_
    have fb : FlatL bd := ⟨by omega, fb⟩
    trivial
    refine wrongN_of (by decide) (by decide) fun wd wf wb => ?_
    trivial
    refine cut_of (fun env => ∃ (dh : D) (lh : List D), env = [none, some .sto, some (.val (.lst (sn.map D.str))), some (.val (.lst (wn.map D.str))), some (.val (.lst bd)), some (.val wd), some (.val dh), none, none, none, none] ∧ seqD dh = some lh ∧ FlatL lh) ?_ fun env ⟨dh, lh, e, hh, fh⟩ => ?_
    · trivial
      refine passed_of rfl fs.1 fun ys hp => ?_
      have fh : FlatL ys := ⟨by rw [hp.length_eq]; exact fs.1, fun e m => fs.2 e (hp.mem_iff.mp m)⟩
      trivial
      exact ⟨⟨_, ys, rfl, rfl, fh⟩, ⟨_, ys, rfl, rfl, fh⟩⟩
    subst e
    trivial
    refine cut_of (fun env => ∃ (da : D) (la : List D), env = [none, some .sto, some (.val (.lst (sn.map D.str))), some (.val (.lst (wn.map D.str))), some (.val (.lst bd)), some (.val wd), some (.val dh), some (.val da), none, none, none] ∧ seqD da = some la ∧ FlatL la) ?_ fun env ⟨da, la, e, ha, fa⟩ => ?_
    · trivial
      refine passed_of rfl fw.1 fun ys hp => ?_
      have fh : FlatL ys := ⟨by rw [hp.length_eq]; exact fw.1, fun e m => fw.2 e (hp.mem_iff.mp m)⟩
      trivial
      exact ⟨⟨_, ys, rfl, rfl, fh⟩, ⟨_, ys, rfl, rfl, fh⟩⟩
    subst e
    trivial
    rw [List.length_map]
    refine take_of (by omega) fun t t0 t1 t2 => ?_
    trivial
    refine few_strs (ss := sn) rfl (by omega) (by omega) fun ps zs pp _ => ?_
    have pl : ps.length ≤ 7 := by
      have := pp.length_eq
      rw [List.length_append] at this
      omega
    have po : NamesOk ps := ⟨fun s m => so1.1 s (pp.mem_iff.mp (List.mem_append_left _ m)), (List.nodup_append.mp (pp.nodup_iff.mpr so1.2)).1⟩
    have fp : FlatL (ps.map D.str) := ⟨by rw [List.length_map]; omega, strs_flat po.1⟩
    trivial
    refine take_of (by decide) fun q q0 _ q1 => ?_
    have q1 := q1 (by decide)
    trivial
    refine ⟨by omega, by omega, nn_of (by rw [range_len]; omega), lcW_map (fun _ => true) xD _ _ (fun e he Y N hy _ => ?_) ?_⟩
    · obtain ⟨a, ha, rfl⟩ := range_mem he
      obtain ⟨q1, q2, q3⟩ := xn_ok61 a (by omega)
      rw [Int.zero_add] at hy ⊢
      trivial
      exact ⟨q3, lim_of (by omega), _, rfl, hy rfl⟩
    have xf : FlatL (((rangeD 0 (13 + q).toNat).filter fun _ => true).map xD) := by
      rw [List.filter_eq_self.mpr fun _ _ => rfl]
      refine ⟨by rw [List.length_map, range_len]; omega, fun y m => ?_⟩
      obtain ⟨e, he, rfl⟩ := List.mem_map.mp m
      obtain ⟨a, ha, rfl⟩ := range_mem he
      obtain ⟨q1, q2, q3⟩ := xn_ok61 a (by omega)
      rw [Int.zero_add]
      exact ⟨by rw [len_add]; omega, allV_lit q2⟩
    have xl : 0 < (((rangeD 0 (13 + q).toNat).filter fun _ => true).map xD).length := by
      rw [List.filter_eq_self.mpr fun _ _ => rfl, List.length_map, range_len]
      omega
    have xl2 : (((rangeD 0 (13 + q).toNat).filter fun _ => true).map xD).length ≤ 60 := by
      rw [List.filter_eq_self.mpr fun _ _ => rfl, List.length_map, range_len]
      omega
    rw [List.nil_append]
    generalize List.map xD _ = xs at xf xl xl2 ⊢
    trivial
    refine shuffled_of rfl xf.1 fun fs2 p2 => ?_
    have f2 : FlatL fs2 := ⟨by rw [p2.length_eq]; exact xf.1, fun e m => xf.2 e (p2.mem_iff.mp m)⟩
    have l2 := p2.length_eq
    trivial
    refine cut_of (fun env => ∃ gs : List D, env = [none, some .sto, some (.val (.lst (sn.map D.str))), some (.val (.lst (wn.map D.str))), some (.val (.lst bd)), some (.val wd), some (.val dh), some (.val da), some (.val (.lst (ps.map D.str))), some (.own gs), none] ∧ FlatL gs) ?_ fun env ⟨gs, e, fg⟩ => ?_
    · trivial
      refine once_of (by decide) fun b => ?_
      cases b
      · trivial
        exact ⟨_, rfl, f2⟩
      · trivial
        obtain ⟨z, hz⟩ : ∃ z, fs2[0]? = some z := ⟨_, List.getElem?_eq_getElem (by omega)⟩
        have fz := f2.2 z (List.mem_of_getElem? hz)
        refine atK_at (j := 0) hz ?_
        trivial
        refine badname_of fun bn fbn => ?_
        trivial
        refine ⟨lim_of (by decide), pick_lst (by simp) (by simp) fun c hc => ?_⟩
        have fc : FlatD c := by
          simp only [List.mem_cons, List.not_mem_nil, or_false] at hc
          rcases hc with rfl | rfl | rfl | rfl | rfl
          · exact fz
          · exact ⟨by decide, allV_lit (by decide)⟩
          · exact ⟨by decide, allV_lit (by decide)⟩
          · exact True.intro
          · exact fbn
        trivial
        exact ⟨Nat.lt_of_le_of_lt (show fs2.length ≤ 60 by omega) (by decide), _, rfl, by rw [List.length_append]; simp; omega, fun y m => by
          rcases List.mem_append.mp m with m | m
          · exact f2.2 y m
          · rw [List.mem_singleton.mp m]
            exact fc⟩
    subst e
    trivial
    refine asked_of hh fh ?_
    trivial
    refine asked_of ha fa ?_
    trivial
    refine asked_of rfl fb ?_
    trivial
    refine asked_of rfl fp ?_
    trivial
    refine asked_of rfl fg ?_
    trivial
    have zp : allpDue (ps.map D.str) = none := by
      unfold allpDue
      rw [namesDue_ok po (by omega)]
      show fewDue _ 7 = none
      unfold fewDue
      rw [List.length_map, if_neg (by omega)]
    refine allp_of rfl fp ?_
    rw [zp, strsD_map]
    simp only [toldK]
    trivial
    rw [strsOf_map]
    trivial
    refine ⟨lim_of (by omega), isall_of ⟨sortS_ok po, sortS_id (sortS_pw ps)⟩ (by rw [sortS_len]; exact pl) ?_⟩
    trivial
    refine counted_of wf (fun e he => ?_) (fun k e lk => ?_)
    case refine_2 =>
      rw [e, numDue_int, if_pos (by omega)] at wb
      cases wb
    rw [wb] at he
    obtain rfl : (⟨.badNumber, [wd]⟩ : Er) = e := by injection he
    trivial
    refine ⟨lim_of (by decide), same_of (show DeepD 5 (.tup [.str (EK.badNumber.cls), wd]) from ⟨by simp, fun y m => ?_⟩) rfl ?_⟩
    · rcases List.mem_cons.mp m with rfl | m
      · show (EK.badNumber.cls).length ≤ 900
        decide
      · rw [List.mem_singleton.mp m]
        exact flat_deep wf
    trivial
    refine ⟨by decide, by decide, nn_of (by decide), forW_inv (fun i env => ∃ z : Option SV, env = [none, some .sto, some (.val (.lst (sn.map D.str))), some (.val (.lst (wn.map D.str))), some (.val (.lst bd)), some (.val wd), some (.val dh), some (.val da), some (.val (.lst (ps.map D.str))), some (.own gs), z]) (fun i d env N hi ⟨z, e⟩ hN => ?S1) (fun env ⟨z, e⟩ => ?T1) _ ⟨none, rfl⟩⟩
    case S1 =>
      subst e
      obtain ⟨lt, rfl⟩ := range_at hi
      have lt : i < 13 := lt
      rw [Int.zero_add]
      have nz : numDue 0 12 (.int (i : Nat)) = none := by rw [numDue_int, if_pos (by omega)]
      trivial
      refine counted_of True.intro (fun e he => ?_) (fun k e lk => ?_)
      · rw [nz] at he
        cases he
      obtain rfl : i = k := by injection e with e; omega
      trivial
      refine many_of lk ?_
      trivial
      refine ⟨lim_of (by decide), same_of (show DeepD 5 (.tup [.str (Str.ofString "answer"), .int (stir i 4 : Nat)]) from ⟨by simp, fun y m => ?_⟩) rfl ?_⟩
      · rcases List.mem_cons.mp m with rfl | m
        · show (Str.ofString "answer").length ≤ 900
          decide
        · rw [List.mem_singleton.mp m]
          exact True.intro
      trivial
      refine cntp_of True.intro ?_
      rw [nz]
      simp only [toldK]
      intro k' e' lk'
      obtain rfl : i = k' := by injection e' with e'; omega
      trivial
      refine many_of lk ?_
      trivial
      refine same_of (show DeepD 5 (.int (stir i 4 : Nat)) from True.intro) rfl ?_
      trivial
      exact hN _ ⟨_, rfl⟩
    case T1 =>
      subst e
      trivial
      refine asked_of hh fh ?_
      exact hrt
end
end K38
namespace K38
open PySem PySem.Spec L2 DL
theorem all_mk {l : PySem.W.OpenLaw} {w : World} {K : PySem.W.Frag} {h : Heap} {mg : Str → Option Value} {fa : Addr} (X : K.In h) (G : h.Ns mainGlobals mg) (hfa : mg "law" = some (.ref fa))
    {f0 : Addr} {od0 an0 : Option Addr} {sl0 : Array (Option Value)} {oc0 kV0 dc0 pm0 cd0 ct0 : Value}
    {f1 : Addr} {od1 an1 : Option Addr} {sl1 : Array (Option Value)} {oc1 kV1 dc1 pm1 cd1 ct1 : Value}
    {f2 : Addr} {od2 an2 : Option Addr} {sl2 : Array (Option Value)} {oc2 kV2 dc2 pm2 cd2 ct2 : Value}
    {f3 : Addr} {od3 an3 : Option Addr} {sl3 : Array (Option Value)} {oc3 kV3 dc3 pm3 cd3 ct3 : Value}
    {f4 : Addr} {od4 an4 : Option Addr} {sl4 : Array (Option Value)} {oc4 kV4 dc4 pm4 cd4 ct4 : Value}
    {f5 : Addr} {od5 an5 : Option Addr} {sl5 : Array (Option Value)} {oc5 kV5 dc5 pm5 cd5 ct5 : Value}
    {f6 : Addr} {od6 an6 : Option Addr} {sl6 : Array (Option Value)} {oc6 kV6 dc6 pm6 cd6 ct6 : Value}
    {f7 : Addr} {od7 an7 : Option Addr} {sl7 : Array (Option Value)} {oc7 kV7 dc7 pm7 cd7 ct7 : Value}
    {f8 : Addr} {od8 an8 : Option Addr} {sl8 : Array (Option Value)} {oc8 kV8 dc8 pm8 cd8 ct8 : Value}
    {f9 : Addr} {od9 an9 : Option Addr} {sl9 : Array (Option Value)} {oc9 kV9 dc9 pm9 cd9 ct9 : Value}
    {f10 : Addr} {od10 an10 : Option Addr} {sl10 : Array (Option Value)} {oc10 kV10 dc10 pm10 cd10 ct10 : Value}
    {f11 : Addr} {od11 an11 : Option Addr} {sl11 : Array (Option Value)} {oc11 kV11 dc11 pm11 cd11 ct11 : Value}
    {f12 : Addr} {od12 an12 : Option Addr} {sl12 : Array (Option Value)} {oc12 kV12 dc12 pm12 cd12 ct12 : Value}
    {f13 : Addr} {od13 an13 : Option Addr} {sl13 : Array (Option Value)} {oc13 kV13 dc13 pm13 cd13 ct13 : Value}
    {f14 : Addr} {od14 an14 : Option Addr} {sl14 : Array (Option Value)} {oc14 kV14 dc14 pm14 cd14 ct14 : Value}
    {f15 : Addr} {od15 an15 : Option Addr} {sl15 : Array (Option Value)} {oc15 kV15 dc15 pm15 cd15 ct15 : Value}
    {f16 : Addr} {od16 an16 : Option Addr} {sl16 : Array (Option Value)} {oc16 kV16 dc16 pm16 cd16 ct16 : Value}
    {f17 : Addr} {od17 an17 : Option Addr} {sl17 : Array (Option Value)} {oc17 kV17 dc17 pm17 cd17 ct17 : Value}
    {f18 : Addr} {od18 an18 : Option Addr} {sl18 : Array (Option Value)} {oc18 kV18 dc18 pm18 cd18 ct18 : Value}
    {f19 : Addr} {od19 an19 : Option Addr} {sl19 : Array (Option Value)} {oc19 kV19 dc19 pm19 cd19 ct19 : Value}
    {f20 : Addr} {od20 an20 : Option Addr} {sl20 : Array (Option Value)} {oc20 kV20 dc20 pm20 cd20 ct20 : Value}
    {f21 : Addr} {od21 an21 : Option Addr} {sl21 : Array (Option Value)} {oc21 kV21 dc21 pm21 cd21 ct21 : Value}
    {f22 : Addr} {od22 an22 : Option Addr} {sl22 : Array (Option Value)} {oc22 kV22 dc22 pm22 cd22 ct22 : Value}
    {f23 : Addr} {od23 an23 : Option Addr} {sl23 : Array (Option Value)} {oc23 kV23 dc23 pm23 cd23 ct23 : Value}
    {f24 : Addr} {od24 an24 : Option Addr} {sl24 : Array (Option Value)} {oc24 kV24 dc24 pm24 cd24 ct24 : Value}
    {f25 : Addr} {od25 an25 : Option Addr} {sl25 : Array (Option Value)} {oc25 kV25 dc25 pm25 cd25 ct25 : Value}
    {f26 : Addr} {od26 an26 : Option Addr} {sl26 : Array (Option Value)} {oc26 kV26 dc26 pm26 cd26 ct26 : Value}
    {f27 : Addr} {od27 an27 : Option Addr} {sl27 : Array (Option Value)} {oc27 kV27 dc27 pm27 cd27 ct27 : Value}
    {f28 : Addr} {od28 an28 : Option Addr} {sl28 : Array (Option Value)} {oc28 kV28 dc28 pm28 cd28 ct28 : Value}
    {f29 : Addr} {od29 an29 : Option Addr} {sl29 : Array (Option Value)} {oc29 kV29 dc29 pm29 cd29 ct29 : Value}
    {f30 : Addr} {od30 an30 : Option Addr} {sl30 : Array (Option Value)} {oc30 kV30 dc30 pm30 cd30 ct30 : Value}
    {f31 : Addr} {od31 an31 : Option Addr} {sl31 : Array (Option Value)} {oc31 kV31 dc31 pm31 cd31 ct31 : Value}
    {f32 : Addr} {od32 an32 : Option Addr} {sl32 : Array (Option Value)} {oc32 kV32 dc32 pm32 cd32 ct32 : Value}
    {f33 : Addr} {od33 an33 : Option Addr} {sl33 : Array (Option Value)} {oc33 kV33 dc33 pm33 cd33 ct33 : Value}
    {f34 : Addr} {od34 an34 : Option Addr} {sl34 : Array (Option Value)} {oc34 kV34 dc34 pm34 cd34 ct34 : Value}
    {f35 : Addr} {od35 an35 : Option Addr} {sl35 : Array (Option Value)} {oc35 kV35 dc35 pm35 cd35 ct35 : Value}
    {f36 : Addr} {od36 an36 : Option Addr} {sl36 : Array (Option Value)} {oc36 kV36 dc36 pm36 cd36 ct36 : Value}
    {f37 : Addr} {od37 an37 : Option Addr} {sl37 : Array (Option Value)} {oc37 kV37 dc37 pm37 cd37 ct37 : Value}
    {f38 : Addr} {od38 an38 : Option Addr} {sl38 : Array (Option Value)} {oc38 kV38 dc38 pm38 cd38 ct38 : Value}
    {f39 : Addr} {od39 an39 : Option Addr} {sl39 : Array (Option Value)} {oc39 kV39 dc39 pm39 cd39 ct39 : Value}
    {f40 : Addr} {od40 an40 : Option Addr} {sl40 : Array (Option Value)} {oc40 kV40 dc40 pm40 cd40 ct40 : Value}
    {t0 : Tok}
    {t1 : Tok}
    {t2 : Tok}
    {t3 : Tok}
    {t4 : Tok}
    {t5 : Tok}
    {FE : Addr}
    {C0 N0 : Addr} {nm0 qn0 : Str} {bs0 bm0 : List Value} {sn0 : List Str} {sub0 : List Value} {ab0 : Bool} {col0 : Option Bool} {dd0 : Option Addr} {m00 m10 m20 m30 m50 : Option Value}
    {C1 N1 : Addr} {nm1 qn1 : Str} {bs1 bm1 : List Value} {sn1 : List Str} {sub1 : List Value} {ab1 : Bool} {col1 : Option Bool} {dd1 : Option Addr} {m01 m11 m21 m31 m51 : Option Value}
    {C2 : Addr}
    {C3 N3 : Addr} {nm3 qn3 : Str} {bs3 bm3 : List Value} {sn3 : List Str} {sub3 : List Value} {ab3 : Bool} {col3 : Option Bool} {dd3 : Option Addr} {m03 m13 m23 m33 m53 : Option Value}
    {C4 : Addr}
    {C5 N5 : Addr} {nm5 qn5 : Str} {bs5 bm5 : List Value} {sn5 : List Str} {sub5 : List Value} {ab5 : Bool} {col5 : Option Bool} {dd5 : Option Addr} {m05 m15 m25 m35 m55 : Option Value}
    {C6 : Addr}
    {C7 : Addr}
    {C8 : Addr}
    {C9 : Addr}
    {C10 : Addr}
    {C11 : Addr}
    {C12 : Addr}
    {C13 : Addr}
    {C14 : Addr}
    {C15 : Addr}
    {C16 : Addr}
    {C17 : Addr}
    {C18 : Addr}
    {C19 : Addr}
    {C20 : Addr}
    {C21 : Addr}
    {If0 : Addr} {Iod0 Ian0 : Option Addr} {Isl0 : Array (Option Value)} {Ioc0 IkV0 Idc0 Ipm0 Icd0 Ict0 : Value}
    {If1 : Addr} {Iod1 Ian1 : Option Addr} {Isl1 : Array (Option Value)} {Ioc1 IkV1 Idc1 Ipm1 Icd1 Ict1 : Value}
    {If3 : Addr} {Iod3 Ian3 : Option Addr} {Isl3 : Array (Option Value)} {Ioc3 IkV3 Idc3 Ipm3 Icd3 Ict3 : Value}
    {If5 : Addr} {Iod5 Ian5 : Option Addr} {Isl5 : Array (Option Value)} {Ioc5 IkV5 Idc5 Ipm5 Icd5 Ict5 : Value}
    (a0 : PySem.W.nsIn K mainGlobals "divisions" = some (some (.ref f0))) (l0 : K.lookup f0 = some ⟨oc0, od0, .func (PySem.W.fnOf "divisions" "divisions" (defArgs s_divisions) (defBody s_divisions) (defScope s_divisions) .none kV0 dc0 pm0 an0 cd0 ct0), sl0⟩) (c0 : PySem.W.codeIn K cd0 "divisions" = true) (k0 : PySem.W.keepIn K (.ref f0) = true)
    (a1 : PySem.W.nsIn K mainGlobals "placings" = some (some (.ref f1))) (l1 : K.lookup f1 = some ⟨oc1, od1, .func (PySem.W.fnOf "placings" "placings" (defArgs s_placings) (defBody s_placings) (defScope s_placings) .none kV1 dc1 pm1 an1 cd1 ct1), sl1⟩) (c1 : PySem.W.codeIn K cd1 "placings" = true) (k1 : PySem.W.keepIn K (.ref f1) = true)
    (a2 : PySem.W.nsIn K mainGlobals "is_name" = some (some (.ref f2))) (l2 : K.lookup f2 = some ⟨oc2, od2, .func (PySem.W.fnOf "is_name" "is_name" (defArgs s_is_name) (defBody s_is_name) (defScope s_is_name) .none kV2 dc2 pm2 an2 cd2 ct2), sl2⟩) (c2 : PySem.W.codeIn K cd2 "is_name" = true) (k2 : PySem.W.keepIn K (.ref f2) = true)
    (a3 : PySem.W.nsIn K mainGlobals "check_name" = some (some (.ref f3))) (l3 : K.lookup f3 = some ⟨oc3, od3, .func (PySem.W.fnOf "check_name" "check_name" (defArgs s_check_name) (defBody s_check_name) (defScope s_check_name) .none kV3 dc3 pm3 an3 cd3 ct3), sl3⟩) (c3 : PySem.W.codeIn K cd3 "check_name" = true) (k3 : PySem.W.keepIn K (.ref f3) = true)
    (a4 : PySem.W.nsIn K mainGlobals "check_whole" = some (some (.ref f4))) (l4 : K.lookup f4 = some ⟨oc4, od4, .func (PySem.W.fnOf "check_whole" "check_whole" (defArgs s_check_whole) (defBody s_check_whole) (defScope s_check_whole) .none kV4 dc4 pm4 an4 cd4 ct4), sl4⟩) (c4 : PySem.W.codeIn K cd4 "check_whole" = true) (k4 : PySem.W.keepIn K (.ref f4) = true)
    (a5 : PySem.W.nsIn K mainGlobals "check_number" = some (some (.ref f5))) (l5 : K.lookup f5 = some ⟨oc5, od5, .func (PySem.W.fnOf "check_number" "check_number" (defArgs s_check_number) (defBody s_check_number) (defScope s_check_number) .none kV5 dc5 pm5 an5 cd5 ct5), sl5⟩) (c5 : PySem.W.codeIn K cd5 "check_number" = true) (k5 : PySem.W.keepIn K (.ref f5) = true)
    (a6 : PySem.W.nsIn K mainGlobals "name_tuple" = some (some (.ref f6))) (l6 : K.lookup f6 = some ⟨oc6, od6, .func (PySem.W.fnOf "name_tuple" "name_tuple" (defArgs s_name_tuple) (defBody s_name_tuple) (defScope s_name_tuple) .none kV6 dc6 pm6 an6 cd6 ct6), sl6⟩) (c6 : PySem.W.codeIn K cd6 "name_tuple" = true) (k6 : PySem.W.keepIn K (.ref f6) = true)
    (a7 : PySem.W.nsIn K mainGlobals "require_few" = some (some (.ref f7))) (l7 : K.lookup f7 = some ⟨oc7, od7, .func (PySem.W.fnOf "require_few" "require_few" (defArgs s_require_few) (defBody s_require_few) (defScope s_require_few) .none kV7 dc7 pm7 an7 cd7 ct7), sl7⟩) (c7 : PySem.W.codeIn K cd7 "require_few" = true) (k7 : PySem.W.keepIn K (.ref f7) = true)
    (a8 : PySem.W.nsIn K mainGlobals "all_partings" = some (some (.ref f8))) (l8 : K.lookup f8 = some ⟨oc8, od8, .func (PySem.W.fnOf "all_partings" "all_partings" (defArgs s_all_partings) (defBody s_all_partings) (defScope s_all_partings) .none kV8 dc8 pm8 an8 cd8 ct8), sl8⟩) (c8 : PySem.W.codeIn K cd8 "all_partings" = true) (k8 : PySem.W.keepIn K (.ref f8) = true)
    (a9 : PySem.W.nsIn K mainGlobals "count_partings" = some (some (.ref f9))) (l9 : K.lookup f9 = some ⟨oc9, od9, .func (PySem.W.fnOf "count_partings" "count_partings" (defArgs s_count_partings) (defBody s_count_partings) (defScope s_count_partings) .none kV9 dc9 pm9 an9 cd9 ct9), sl9⟩) (c9 : PySem.W.codeIn K cd9 "count_partings" = true) (k9 : PySem.W.keepIn K (.ref f9) = true)
    (a10 : PySem.W.nsIn K mainGlobals "_law_mixed" = some (some (.ref f10))) (l10 : K.lookup f10 = some ⟨oc10, od10, .func (PySem.W.fnOf "_law_mixed" "_law_mixed" (defArgs s__law_mixed) (defBody s__law_mixed) (defScope s__law_mixed) .none kV10 dc10 pm10 an10 cd10 ct10), sl10⟩) (c10 : PySem.W.codeIn K cd10 "_law_mixed" = true) (k10 : PySem.W.keepIn K (.ref f10) = true)
    (a11 : PySem.W.nsIn K mainGlobals "_law_store" = some (some (.ref f11))) (l11 : K.lookup f11 = some ⟨oc11, od11, .func (PySem.W.fnOf "_law_store" "_law_store" (defArgs s__law_store) (defBody s__law_store) (defScope s__law_store) .none kV11 dc11 pm11 an11 cd11 ct11), sl11⟩) (c11 : PySem.W.codeIn K cd11 "_law_store" = true) (k11 : PySem.W.keepIn K (.ref f11) = true)
    (a12 : PySem.W.nsIn K mainGlobals "_law_take" = some (some (.ref f12))) (l12 : K.lookup f12 = some ⟨oc12, od12, .func (PySem.W.fnOf "_law_take" "_law_take" (defArgs s__law_take) (defBody s__law_take) (defScope s__law_take) .none kV12 dc12 pm12 an12 cd12 ct12), sl12⟩) (c12 : PySem.W.codeIn K cd12 "_law_take" = true) (k12 : PySem.W.keepIn K (.ref f12) = true)
    (a13 : PySem.W.nsIn K mainGlobals "_law_once" = some (some (.ref f13))) (l13 : K.lookup f13 = some ⟨oc13, od13, .func (PySem.W.fnOf "_law_once" "_law_once" (defArgs s__law_once) (defBody s__law_once) (defScope s__law_once) .none kV13 dc13 pm13 an13 cd13 ct13), sl13⟩) (c13 : PySem.W.codeIn K cd13 "_law_once" = true) (k13 : PySem.W.keepIn K (.ref f13) = true)
    (a14 : PySem.W.nsIn K mainGlobals "_law_pick" = some (some (.ref f14))) (l14 : K.lookup f14 = some ⟨oc14, od14, .func (PySem.W.fnOf "_law_pick" "_law_pick" (defArgs s__law_pick) (defBody s__law_pick) (defScope s__law_pick) .none kV14 dc14 pm14 an14 cd14 ct14), sl14⟩) (c14 : PySem.W.codeIn K cd14 "_law_pick" = true) (k14 : PySem.W.keepIn K (.ref f14) = true)
    (a15 : PySem.W.nsIn K mainGlobals "_law_shuffled" = some (some (.ref f15))) (l15 : K.lookup f15 = some ⟨oc15, od15, .func (PySem.W.fnOf "_law_shuffled" "_law_shuffled" (defArgs s__law_shuffled) (defBody s__law_shuffled) (defScope s__law_shuffled) .none kV15 dc15 pm15 an15 cd15 ct15), sl15⟩) (c15 : PySem.W.codeIn K cd15 "_law_shuffled" = true) (k15 : PySem.W.keepIn K (.ref f15) = true)
    (a16 : PySem.W.nsIn K mainGlobals "_law_few" = some (some (.ref f16))) (l16 : K.lookup f16 = some ⟨oc16, od16, .func (PySem.W.fnOf "_law_few" "_law_few" (defArgs s__law_few) (defBody s__law_few) (defScope s__law_few) .none kV16 dc16 pm16 an16 cd16 ct16), sl16⟩) (c16 : PySem.W.codeIn K cd16 "_law_few" = true) (k16 : PySem.W.keepIn K (.ref f16) = true)
    (a17 : PySem.W.nsIn K mainGlobals "_law_passed" = some (some (.ref f17))) (l17 : K.lookup f17 = some ⟨oc17, od17, .func (PySem.W.fnOf "_law_passed" "_law_passed" (defArgs s__law_passed) (defBody s__law_passed) (defScope s__law_passed) .none kV17 dc17 pm17 an17 cd17 ct17), sl17⟩) (c17 : PySem.W.codeIn K cd17 "_law_passed" = true) (k17 : PySem.W.keepIn K (.ref f17) = true)
    (a18 : PySem.W.nsIn K mainGlobals "_law_number" = some (some (.ref f18))) (l18 : K.lookup f18 = some ⟨oc18, od18, .func (PySem.W.fnOf "_law_number" "_law_number" (defArgs s__law_number) (defBody s__law_number) (defScope s__law_number) .none kV18 dc18 pm18 an18 cd18 ct18), sl18⟩) (c18 : PySem.W.codeIn K cd18 "_law_number" = true) (k18 : PySem.W.keepIn K (.ref f18) = true)
    (a19 : PySem.W.nsIn K mainGlobals "_law_badnumber" = some (some (.ref f19))) (l19 : K.lookup f19 = some ⟨oc19, od19, .func (PySem.W.fnOf "_law_badnumber" "_law_badnumber" (defArgs s__law_badnumber) (defBody s__law_badnumber) (defScope s__law_badnumber) .none kV19 dc19 pm19 an19 cd19 ct19), sl19⟩) (c19 : PySem.W.codeIn K cd19 "_law_badnumber" = true) (k19 : PySem.W.keepIn K (.ref f19) = true)
    (a20 : PySem.W.nsIn K mainGlobals "_law_count" = some (some (.ref f20))) (l20 : K.lookup f20 = some ⟨oc20, od20, .func (PySem.W.fnOf "_law_count" "_law_count" (defArgs s__law_count) (defBody s__law_count) (defScope s__law_count) .none kV20 dc20 pm20 an20 cd20 ct20), sl20⟩) (c20 : PySem.W.codeIn K cd20 "_law_count" = true) (k20 : PySem.W.keepIn K (.ref f20) = true)
    (a21 : PySem.W.nsIn K mainGlobals "_law_name" = some (some (.ref f21))) (l21 : K.lookup f21 = some ⟨oc21, od21, .func (PySem.W.fnOf "_law_name" "_law_name" (defArgs s__law_name) (defBody s__law_name) (defScope s__law_name) .none kV21 dc21 pm21 an21 cd21 ct21), sl21⟩) (c21 : PySem.W.codeIn K cd21 "_law_name" = true) (k21 : PySem.W.keepIn K (.ref f21) = true)
    (a22 : PySem.W.nsIn K mainGlobals "_law_names" = some (some (.ref f22))) (l22 : K.lookup f22 = some ⟨oc22, od22, .func (PySem.W.fnOf "_law_names" "_law_names" (defArgs s__law_names) (defBody s__law_names) (defScope s__law_names) .none kV22 dc22 pm22 an22 cd22 ct22), sl22⟩) (c22 : PySem.W.codeIn K cd22 "_law_names" = true) (k22 : PySem.W.keepIn K (.ref f22) = true)
    (a23 : PySem.W.nsIn K mainGlobals "_law_strange" = some (some (.ref f23))) (l23 : K.lookup f23 = some ⟨oc23, od23, .func (PySem.W.fnOf "_law_strange" "_law_strange" (defArgs s__law_strange) (defBody s__law_strange) (defScope s__law_strange) .none kV23 dc23 pm23 an23 cd23 ct23), sl23⟩) (c23 : PySem.W.codeIn K cd23 "_law_strange" = true) (k23 : PySem.W.keepIn K (.ref f23) = true)
    (a24 : PySem.W.nsIn K mainGlobals "_law_isname" = some (some (.ref f24))) (l24 : K.lookup f24 = some ⟨oc24, od24, .func (PySem.W.fnOf "_law_isname" "_law_isname" (defArgs s__law_isname) (defBody s__law_isname) (defScope s__law_isname) .none kV24 dc24 pm24 an24 cd24 ct24), sl24⟩) (c24 : PySem.W.codeIn K cd24 "_law_isname" = true) (k24 : PySem.W.keepIn K (.ref f24) = true)
    (a25 : PySem.W.nsIn K mainGlobals "_law_badname" = some (some (.ref f25))) (l25 : K.lookup f25 = some ⟨oc25, od25, .func (PySem.W.fnOf "_law_badname" "_law_badname" (defArgs s__law_badname) (defBody s__law_badname) (defScope s__law_badname) .none kV25 dc25 pm25 an25 cd25 ct25), sl25⟩) (c25 : PySem.W.codeIn K cd25 "_law_badname" = true) (k25 : PySem.W.keepIn K (.ref f25) = true)
    (a26 : PySem.W.nsIn K mainGlobals "_law_bentnames" = some (some (.ref f26))) (l26 : K.lookup f26 = some ⟨oc26, od26, .func (PySem.W.fnOf "_law_bentnames" "_law_bentnames" (defArgs s__law_bentnames) (defBody s__law_bentnames) (defScope s__law_bentnames) .none kV26 dc26 pm26 an26 cd26 ct26), sl26⟩) (c26 : PySem.W.codeIn K cd26 "_law_bentnames" = true) (k26 : PySem.W.keepIn K (.ref f26) = true)
    (a27 : PySem.W.nsIn K mainGlobals "_law_namesdue" = some (some (.ref f27))) (l27 : K.lookup f27 = some ⟨oc27, od27, .func (PySem.W.fnOf "_law_namesdue" "_law_namesdue" (defArgs s__law_namesdue) (defBody s__law_namesdue) (defScope s__law_namesdue) .none kV27 dc27 pm27 an27 cd27 ct27), sl27⟩) (c27 : PySem.W.codeIn K cd27 "_law_namesdue" = true) (k27 : PySem.W.keepIn K (.ref f27) = true)
    (a28 : PySem.W.nsIn K mainGlobals "_law_flat" = some (some (.ref f28))) (l28 : K.lookup f28 = some ⟨oc28, od28, .func (PySem.W.fnOf "_law_flat" "_law_flat" (defArgs s__law_flat) (defBody s__law_flat) (defScope s__law_flat) .none kV28 dc28 pm28 an28 cd28 ct28), sl28⟩) (c28 : PySem.W.codeIn K cd28 "_law_flat" = true) (k28 : PySem.W.keepIn K (.ref f28) = true)
    (a29 : PySem.W.nsIn K mainGlobals "_law_same" = some (some (.ref f29))) (l29 : K.lookup f29 = some ⟨oc29, od29, .func (PySem.W.fnOf "_law_same" "_law_same" (defArgs s__law_same) (defBody s__law_same) (defScope s__law_same) .none kV29 dc29 pm29 an29 cd29 ct29), sl29⟩) (c29 : PySem.W.codeIn K cd29 "_law_same" = true) (k29 : PySem.W.keepIn K (.ref f29) = true)
    (a30 : PySem.W.nsIn K mainGlobals "_law_copied" = some (some (.ref f30))) (l30 : K.lookup f30 = some ⟨oc30, od30, .func (PySem.W.fnOf "_law_copied" "_law_copied" (defArgs s__law_copied) (defBody s__law_copied) (defScope s__law_copied) .none kV30 dc30 pm30 an30 cd30 ct30), sl30⟩) (c30 : PySem.W.codeIn K cd30 "_law_copied" = true) (k30 : PySem.W.keepIn K (.ref f30) = true)
    (a31 : PySem.W.nsIn K mainGlobals "_law_onekind" = some (some (.ref f31))) (l31 : K.lookup f31 = some ⟨oc31, od31, .func (PySem.W.fnOf "_law_onekind" "_law_onekind" (defArgs s__law_onekind) (defBody s__law_onekind) (defScope s__law_onekind) .none kV31 dc31 pm31 an31 cd31 ct31), sl31⟩) (c31 : PySem.W.codeIn K cd31 "_law_onekind" = true) (k31 : PySem.W.keepIn K (.ref f31) = true)
    (a32 : PySem.W.nsIn K mainGlobals "_law_told" = some (some (.ref f32))) (l32 : K.lookup f32 = some ⟨oc32, od32, .func (PySem.W.fnOf "_law_told" "_law_told" (defArgs s__law_told) (defBody s__law_told) (defScope s__law_told) .none kV32 dc32 pm32 an32 cd32 ct32), sl32⟩) (c32 : PySem.W.codeIn K cd32 "_law_told" = true) (k32 : PySem.W.keepIn K (.ref f32) = true)
    (a33 : PySem.W.nsIn K mainGlobals "_law_many" = some (some (.ref f33))) (l33 : K.lookup f33 = some ⟨oc33, od33, .func (PySem.W.fnOf "_law_many" "_law_many" (defArgs s__law_many) (defBody s__law_many) (defScope s__law_many) .none kV33 dc33 pm33 an33 cd33 ct33), sl33⟩) (c33 : PySem.W.codeIn K cd33 "_law_many" = true) (k33 : PySem.W.keepIn K (.ref f33) = true)
    (a34 : PySem.W.nsIn K mainGlobals "_law_islot" = some (some (.ref f34))) (l34 : K.lookup f34 = some ⟨oc34, od34, .func (PySem.W.fnOf "_law_islot" "_law_islot" (defArgs s__law_islot) (defBody s__law_islot) (defScope s__law_islot) .none kV34 dc34 pm34 an34 cd34 ct34), sl34⟩) (c34 : PySem.W.codeIn K cd34 "_law_islot" = true) (k34 : PySem.W.keepIn K (.ref f34) = true)
    (a35 : PySem.W.nsIn K mainGlobals "_law_islots" = some (some (.ref f35))) (l35 : K.lookup f35 = some ⟨oc35, od35, .func (PySem.W.fnOf "_law_islots" "_law_islots" (defArgs s__law_islots) (defBody s__law_islots) (defScope s__law_islots) .none kV35 dc35 pm35 an35 cd35 ct35), sl35⟩) (c35 : PySem.W.codeIn K cd35 "_law_islots" = true) (k35 : PySem.W.keepIn K (.ref f35) = true)
    (a36 : PySem.W.nsIn K mainGlobals "_law_isall" = some (some (.ref f36))) (l36 : K.lookup f36 = some ⟨oc36, od36, .func (PySem.W.fnOf "_law_isall" "_law_isall" (defArgs s__law_isall) (defBody s__law_isall) (defScope s__law_isall) .none kV36 dc36 pm36 an36 cd36 ct36), sl36⟩) (c36 : PySem.W.codeIn K cd36 "_law_isall" = true) (k36 : PySem.W.keepIn K (.ref f36) = true)
    (a37 : PySem.W.nsIn K mainGlobals "_law_answer" = some (some (.ref f37))) (l37 : K.lookup f37 = some ⟨oc37, od37, .func (PySem.W.fnOf "_law_answer" "_law_answer" (defArgs s__law_answer) (defBody s__law_answer) (defScope s__law_answer) .none kV37 dc37 pm37 an37 cd37 ct37), sl37⟩) (c37 : PySem.W.codeIn K cd37 "_law_answer" = true) (k37 : PySem.W.keepIn K (.ref f37) = true)
    (a38 : PySem.W.nsIn K mainGlobals "_law_counted" = some (some (.ref f38))) (l38 : K.lookup f38 = some ⟨oc38, od38, .func (PySem.W.fnOf "_law_counted" "_law_counted" (defArgs s__law_counted) (defBody s__law_counted) (defScope s__law_counted) .none kV38 dc38 pm38 an38 cd38 ct38), sl38⟩) (c38 : PySem.W.codeIn K cd38 "_law_counted" = true) (k38 : PySem.W.keepIn K (.ref f38) = true)
    (a39 : PySem.W.nsIn K mainGlobals "_law_asked" = some (some (.ref f39))) (l39 : K.lookup f39 = some ⟨oc39, od39, .func (PySem.W.fnOf "_law_asked" "_law_asked" (defArgs s__law_asked) (defBody s__law_asked) (defScope s__law_asked) .none kV39 dc39 pm39 an39 cd39 ct39), sl39⟩) (c39 : PySem.W.codeIn K cd39 "_law_asked" = true) (k39 : PySem.W.keepIn K (.ref f39) = true)
    (a40 : PySem.W.nsIn K mainGlobals "law" = some (some (.ref f40))) (l40 : K.lookup f40 = some ⟨oc40, od40, .func (PySem.W.fnOf "law" "law" (defArgs s_law) (defBody s_law) (defScope s_law) .none kV40 dc40 pm40 an40 cd40 ct40), sl40⟩) (c40 : PySem.W.codeIn K cd40 "law" = true) (k40 : PySem.W.keepIn K (.ref f40) = true)
    (gc0 : PySem.W.nsIn K mainGlobals "MOST_SIGNS" = some (some (.int 8 t0)))
    (gc1 : PySem.W.nsIn K mainGlobals "MOST_NAMES" = some (some (.int 12 t1)))
    (gc2 : PySem.W.nsIn K mainGlobals "PARTED_NAMES" = some (some (.int 7 t2)))
    (gc3 : PySem.W.nsIn K mainGlobals "LETTERS" = some (some (.str "abcdefghijklmnopqrstuvwxyz" t3)))
    (gc4 : PySem.W.nsIn K mainGlobals "SIGNS" = some (some (.str "abcdefghijklmnopqrstuvwxyz0123456789" t4)))
    (gc5 : PySem.W.nsIn K mainGlobals "LOTS" = some (some (.int 4 t5)))
    (zc0 : PySem.W.nsIn K mainGlobals "len" = some none)
    (zc1 : PySem.W.nsIn K mainGlobals "abs" = some none)
    (zc2 : PySem.W.nsIn K mainGlobals "int" = some none)
    (zc3 : PySem.W.nsIn K mainGlobals "str" = some none)
    (zc4 : PySem.W.nsIn K mainGlobals "list" = some none)
    (zc5 : PySem.W.nsIn K mainGlobals "tuple" = some none)
    (zc6 : PySem.W.nsIn K mainGlobals "all" = some none)
    (zc7 : PySem.W.nsIn K mainGlobals "isinstance" = some none)
    (zc8 : PySem.W.nsIn K mainGlobals "bool" = some none)
    (zc9 : PySem.W.nsIn K mainGlobals "range" = some none)
    (zc10 : PySem.W.nsIn K mainGlobals "sorted" = some none)
    (zc11 : PySem.W.nsIn K mainGlobals "max" = some none)
    (zc12 : PySem.W.nsIn K mainGlobals "min" = some none)
    (zc13 : PySem.W.nsIn K mainGlobals "ValueError" = some none)
    (zc14 : PySem.W.nsIn K mainGlobals "set" = some none)
    (zc15 : PySem.W.nsIn K mainGlobals "enumerate" = some none)
    (fe0 : PySem.W.nsIn K mainGlobals "FourmetError" = some (some (.ref FE))) (fe1 : PySem.W.isClsIn K FE = true) (fe2 : PySem.W.typeIn K (.ref FE) = some (.type "type")) (fe3 : PySem.W.subIn K (.ref FE) (.type "BaseException") = some true)
    (ob0 : PySem.W.specialIn K (.builtin "object.__class__") "__get__" = some (some (.builtin "getset_descriptor.__get__"))) (ob1 : PySem.W.takesIn K (.builtin "object.__class__") = some true)
    (xa0 : PySem.W.nsIn K mainGlobals "BadName" = some (some (.ref C0))) (xl0 : K.lookup C0 = some (excClassObj nm0 qn0 C0 N0 bs0 bm0 true sn0 sub0 ab0 col0 dd0 m00 m10 m20 m30 m50 "ValueError.__new__")) (xr0 : PySem.HandSPX.refsVE bm0 = true)
    (xs0 : PySem.W.findIn K (.ref C0) "__setattr__" = some (some (.builtin "object.__setattr__"))) (xe0 : PySem.W.subIn K (.ref C0) (.type "BaseException") = some true) (xt0 : PySem.W.typeIn K (.ref C0) = some (.type "type")) (xk0 : PySem.W.keepIn K (.ref C0) = true)
    (xc0 : PySem.W.isClsIn K C0 = true) (xg0 : PySem.W.findIn K (.ref C0) "__getattribute__" = some (some (.builtin "BaseException.__getattribute__"))) (xh0 : PySem.W.findIn K (.ref C0) "__getattr__" = some none) (xd0 : PySem.W.hasDictIn K C0 = true) (xq0 : PySem.W.findIn K (.ref C0) "__class__" = some (some (.builtin "object.__class__"))) (xo0 : PySem.W.mroIn K C0 (.type "object") = some true)
    (xu0 : PySem.W.subIn K (.ref C0) (.ref C0) = some true) (xf0 : PySem.W.subIn K (.ref C0) (.ref FE) = some true) (xv0 : PySem.W.subIn K (.ref C0) (.type "ValueError") = some true)
    (xa1 : PySem.W.nsIn K mainGlobals "RepeatedName" = some (some (.ref C1))) (xl1 : K.lookup C1 = some (excClassObj nm1 qn1 C1 N1 bs1 bm1 true sn1 sub1 ab1 col1 dd1 m01 m11 m21 m31 m51 "ValueError.__new__")) (xr1 : PySem.HandSPX.refsVE bm1 = true)
    (xs1 : PySem.W.findIn K (.ref C1) "__setattr__" = some (some (.builtin "object.__setattr__"))) (xe1 : PySem.W.subIn K (.ref C1) (.type "BaseException") = some true) (xt1 : PySem.W.typeIn K (.ref C1) = some (.type "type")) (xk1 : PySem.W.keepIn K (.ref C1) = true)
    (xc1 : PySem.W.isClsIn K C1 = true) (xg1 : PySem.W.findIn K (.ref C1) "__getattribute__" = some (some (.builtin "BaseException.__getattribute__"))) (xh1 : PySem.W.findIn K (.ref C1) "__getattr__" = some none) (xd1 : PySem.W.hasDictIn K C1 = true) (xq1 : PySem.W.findIn K (.ref C1) "__class__" = some (some (.builtin "object.__class__"))) (xo1 : PySem.W.mroIn K C1 (.type "object") = some true)
    (xu1 : PySem.W.subIn K (.ref C1) (.ref C1) = some true) (xf1 : PySem.W.subIn K (.ref C1) (.ref FE) = some true) (xv1 : PySem.W.subIn K (.ref C1) (.type "ValueError") = some true)
    (xa2 : PySem.W.nsIn K mainGlobals "UnknownName" = some (some (.ref C2))) (xc2 : PySem.W.isClsIn K C2 = true) (xt2 : PySem.W.typeIn K (.ref C2) = some (.type "type"))
    (xa3 : PySem.W.nsIn K mainGlobals "TooMany" = some (some (.ref C3))) (xl3 : K.lookup C3 = some (excClassObj nm3 qn3 C3 N3 bs3 bm3 true sn3 sub3 ab3 col3 dd3 m03 m13 m23 m33 m53 "ValueError.__new__")) (xr3 : PySem.HandSPX.refsVE bm3 = true)
    (xs3 : PySem.W.findIn K (.ref C3) "__setattr__" = some (some (.builtin "object.__setattr__"))) (xe3 : PySem.W.subIn K (.ref C3) (.type "BaseException") = some true) (xt3 : PySem.W.typeIn K (.ref C3) = some (.type "type")) (xk3 : PySem.W.keepIn K (.ref C3) = true)
    (xc3 : PySem.W.isClsIn K C3 = true) (xg3 : PySem.W.findIn K (.ref C3) "__getattribute__" = some (some (.builtin "BaseException.__getattribute__"))) (xh3 : PySem.W.findIn K (.ref C3) "__getattr__" = some none) (xd3 : PySem.W.hasDictIn K C3 = true) (xq3 : PySem.W.findIn K (.ref C3) "__class__" = some (some (.builtin "object.__class__"))) (xo3 : PySem.W.mroIn K C3 (.type "object") = some true)
    (xu3 : PySem.W.subIn K (.ref C3) (.ref C3) = some true) (xf3 : PySem.W.subIn K (.ref C3) (.ref FE) = some true) (xv3 : PySem.W.subIn K (.ref C3) (.type "ValueError") = some true)
    (xa4 : PySem.W.nsIn K mainGlobals "WrongCount" = some (some (.ref C4))) (xc4 : PySem.W.isClsIn K C4 = true) (xt4 : PySem.W.typeIn K (.ref C4) = some (.type "type"))
    (xa5 : PySem.W.nsIn K mainGlobals "BadNumber" = some (some (.ref C5))) (xl5 : K.lookup C5 = some (excClassObj nm5 qn5 C5 N5 bs5 bm5 true sn5 sub5 ab5 col5 dd5 m05 m15 m25 m35 m55 "ValueError.__new__")) (xr5 : PySem.HandSPX.refsVE bm5 = true)
    (xs5 : PySem.W.findIn K (.ref C5) "__setattr__" = some (some (.builtin "object.__setattr__"))) (xe5 : PySem.W.subIn K (.ref C5) (.type "BaseException") = some true) (xt5 : PySem.W.typeIn K (.ref C5) = some (.type "type")) (xk5 : PySem.W.keepIn K (.ref C5) = true)
    (xc5 : PySem.W.isClsIn K C5 = true) (xg5 : PySem.W.findIn K (.ref C5) "__getattribute__" = some (some (.builtin "BaseException.__getattribute__"))) (xh5 : PySem.W.findIn K (.ref C5) "__getattr__" = some none) (xd5 : PySem.W.hasDictIn K C5 = true) (xq5 : PySem.W.findIn K (.ref C5) "__class__" = some (some (.builtin "object.__class__"))) (xo5 : PySem.W.mroIn K C5 (.type "object") = some true)
    (xu5 : PySem.W.subIn K (.ref C5) (.ref C5) = some true) (xf5 : PySem.W.subIn K (.ref C5) (.ref FE) = some true) (xv5 : PySem.W.subIn K (.ref C5) (.type "ValueError") = some true)
    (xa6 : PySem.W.nsIn K mainGlobals "BadSplit" = some (some (.ref C6))) (xc6 : PySem.W.isClsIn K C6 = true) (xt6 : PySem.W.typeIn K (.ref C6) = some (.type "type"))
    (xa7 : PySem.W.nsIn K mainGlobals "Clash" = some (some (.ref C7))) (xc7 : PySem.W.isClsIn K C7 = true) (xt7 : PySem.W.typeIn K (.ref C7) = some (.type "type"))
    (xa8 : PySem.W.nsIn K mainGlobals "BadText" = some (some (.ref C8))) (xc8 : PySem.W.isClsIn K C8 = true) (xt8 : PySem.W.typeIn K (.ref C8) = some (.type "type"))
    (xa9 : PySem.W.nsIn K mainGlobals "BadLine" = some (some (.ref C9))) (xc9 : PySem.W.isClsIn K C9 = true) (xt9 : PySem.W.typeIn K (.ref C9) = some (.type "type"))
    (xa10 : PySem.W.nsIn K mainGlobals "BadTelling" = some (some (.ref C10))) (xc10 : PySem.W.isClsIn K C10 = true) (xt10 : PySem.W.typeIn K (.ref C10) = some (.type "type"))
    (xa11 : PySem.W.nsIn K mainGlobals "NotInAll" = some (some (.ref C11))) (xc11 : PySem.W.isClsIn K C11 = true) (xt11 : PySem.W.typeIn K (.ref C11) = some (.type "type"))
    (xa12 : PySem.W.nsIn K mainGlobals "NotAlike" = some (some (.ref C12))) (xc12 : PySem.W.isClsIn K C12 = true) (xt12 : PySem.W.typeIn K (.ref C12) = some (.type "type"))
    (xa13 : PySem.W.nsIn K mainGlobals "Untold" = some (some (.ref C13))) (xc13 : PySem.W.isClsIn K C13 = true) (xt13 : PySem.W.typeIn K (.ref C13) = some (.type "type"))
    (xa14 : PySem.W.nsIn K mainGlobals "BadPlaces" = some (some (.ref C14))) (xc14 : PySem.W.isClsIn K C14 = true) (xt14 : PySem.W.typeIn K (.ref C14) = some (.type "type"))
    (xa15 : PySem.W.nsIn K mainGlobals "BadSpot" = some (some (.ref C15))) (xc15 : PySem.W.isClsIn K C15 = true) (xt15 : PySem.W.typeIn K (.ref C15) = some (.type "type"))
    (xa16 : PySem.W.nsIn K mainGlobals "BadParting" = some (some (.ref C16))) (xc16 : PySem.W.isClsIn K C16 = true) (xt16 : PySem.W.typeIn K (.ref C16) = some (.type "type"))
    (xa17 : PySem.W.nsIn K mainGlobals "BadPaper" = some (some (.ref C17))) (xc17 : PySem.W.isClsIn K C17 = true) (xt17 : PySem.W.typeIn K (.ref C17) = some (.type "type"))
    (xa18 : PySem.W.nsIn K mainGlobals "UnlikeNames" = some (some (.ref C18))) (xc18 : PySem.W.isClsIn K C18 = true) (xt18 : PySem.W.typeIn K (.ref C18) = some (.type "type"))
    (xa19 : PySem.W.nsIn K mainGlobals "SameTree" = some (some (.ref C19))) (xc19 : PySem.W.isClsIn K C19 = true) (xt19 : PySem.W.typeIn K (.ref C19) = some (.type "type"))
    (xa20 : PySem.W.nsIn K mainGlobals "NoTree" = some (some (.ref C20))) (xc20 : PySem.W.isClsIn K C20 = true) (xt20 : PySem.W.typeIn K (.ref C20) = some (.type "type"))
    (xa21 : PySem.W.nsIn K mainGlobals "SeveralTrees" = some (some (.ref C21))) (xc21 : PySem.W.isClsIn K C21 = true) (xt21 : PySem.W.typeIn K (.ref C21) = some (.type "type"))
    (xn0most : PySem.W.findIn K (.ref C0) "most" = some none)
    (xn0name : PySem.W.findIn K (.ref C0) "name" = some none)
    (xn0number : PySem.W.findIn K (.ref C0) "number" = some none)
    (ia0 : PySem.W.findIn K (.ref C0) "__init__" = some (some (.ref If0))) (it0 : PySem.W.typeIn K (.ref If0) = some (.type "function")) (il0 : K.lookup If0 = some ⟨Ioc0, Iod0, .func (PySem.W.fnOf "__init__" "BadName.__init__" (defArgs s_init_BadName) (defBody s_init_BadName) (defScope s_init_BadName) .none IkV0 Idc0 Ipm0 Ian0 Icd0 Ict0), Isl0⟩) (ic0 : PySem.W.codeIn K Icd0 "BadName.__init__" = true) (ik0 : PySem.W.keepIn K (.ref If0) = true)
    (xp0_1 : PySem.W.subIn K (.ref C0) (.ref C1) = some false)
    (xp0_2 : PySem.W.subIn K (.ref C0) (.ref C2) = some false)
    (xp0_3 : PySem.W.subIn K (.ref C0) (.ref C3) = some false)
    (xp0_4 : PySem.W.subIn K (.ref C0) (.ref C4) = some false)
    (xp0_5 : PySem.W.subIn K (.ref C0) (.ref C5) = some false)
    (xp0_6 : PySem.W.subIn K (.ref C0) (.ref C6) = some false)
    (xp0_7 : PySem.W.subIn K (.ref C0) (.ref C7) = some false)
    (xp0_8 : PySem.W.subIn K (.ref C0) (.ref C8) = some false)
    (xp0_9 : PySem.W.subIn K (.ref C0) (.ref C9) = some false)
    (xp0_10 : PySem.W.subIn K (.ref C0) (.ref C10) = some false)
    (xp0_11 : PySem.W.subIn K (.ref C0) (.ref C11) = some false)
    (xp0_12 : PySem.W.subIn K (.ref C0) (.ref C12) = some false)
    (xp0_13 : PySem.W.subIn K (.ref C0) (.ref C13) = some false)
    (xp0_14 : PySem.W.subIn K (.ref C0) (.ref C14) = some false)
    (xp0_15 : PySem.W.subIn K (.ref C0) (.ref C15) = some false)
    (xp0_16 : PySem.W.subIn K (.ref C0) (.ref C16) = some false)
    (xp0_17 : PySem.W.subIn K (.ref C0) (.ref C17) = some false)
    (xp0_18 : PySem.W.subIn K (.ref C0) (.ref C18) = some false)
    (xp0_19 : PySem.W.subIn K (.ref C0) (.ref C19) = some false)
    (xp0_20 : PySem.W.subIn K (.ref C0) (.ref C20) = some false)
    (xp0_21 : PySem.W.subIn K (.ref C0) (.ref C21) = some false)
    (xn1most : PySem.W.findIn K (.ref C1) "most" = some none)
    (xn1name : PySem.W.findIn K (.ref C1) "name" = some none)
    (xn1number : PySem.W.findIn K (.ref C1) "number" = some none)
    (ia1 : PySem.W.findIn K (.ref C1) "__init__" = some (some (.ref If1))) (it1 : PySem.W.typeIn K (.ref If1) = some (.type "function")) (il1 : K.lookup If1 = some ⟨Ioc1, Iod1, .func (PySem.W.fnOf "__init__" "RepeatedName.__init__" (defArgs s_init_RepeatedName) (defBody s_init_RepeatedName) (defScope s_init_RepeatedName) .none IkV1 Idc1 Ipm1 Ian1 Icd1 Ict1), Isl1⟩) (ic1 : PySem.W.codeIn K Icd1 "RepeatedName.__init__" = true) (ik1 : PySem.W.keepIn K (.ref If1) = true)
    (xp1_0 : PySem.W.subIn K (.ref C1) (.ref C0) = some false)
    (xp1_2 : PySem.W.subIn K (.ref C1) (.ref C2) = some false)
    (xp1_3 : PySem.W.subIn K (.ref C1) (.ref C3) = some false)
    (xp1_4 : PySem.W.subIn K (.ref C1) (.ref C4) = some false)
    (xp1_5 : PySem.W.subIn K (.ref C1) (.ref C5) = some false)
    (xp1_6 : PySem.W.subIn K (.ref C1) (.ref C6) = some false)
    (xp1_7 : PySem.W.subIn K (.ref C1) (.ref C7) = some false)
    (xp1_8 : PySem.W.subIn K (.ref C1) (.ref C8) = some false)
    (xp1_9 : PySem.W.subIn K (.ref C1) (.ref C9) = some false)
    (xp1_10 : PySem.W.subIn K (.ref C1) (.ref C10) = some false)
    (xp1_11 : PySem.W.subIn K (.ref C1) (.ref C11) = some false)
    (xp1_12 : PySem.W.subIn K (.ref C1) (.ref C12) = some false)
    (xp1_13 : PySem.W.subIn K (.ref C1) (.ref C13) = some false)
    (xp1_14 : PySem.W.subIn K (.ref C1) (.ref C14) = some false)
    (xp1_15 : PySem.W.subIn K (.ref C1) (.ref C15) = some false)
    (xp1_16 : PySem.W.subIn K (.ref C1) (.ref C16) = some false)
    (xp1_17 : PySem.W.subIn K (.ref C1) (.ref C17) = some false)
    (xp1_18 : PySem.W.subIn K (.ref C1) (.ref C18) = some false)
    (xp1_19 : PySem.W.subIn K (.ref C1) (.ref C19) = some false)
    (xp1_20 : PySem.W.subIn K (.ref C1) (.ref C20) = some false)
    (xp1_21 : PySem.W.subIn K (.ref C1) (.ref C21) = some false)
    (xn3most : PySem.W.findIn K (.ref C3) "most" = some none)
    (xn3name : PySem.W.findIn K (.ref C3) "name" = some none)
    (xn3number : PySem.W.findIn K (.ref C3) "number" = some none)
    (ia3 : PySem.W.findIn K (.ref C3) "__init__" = some (some (.ref If3))) (it3 : PySem.W.typeIn K (.ref If3) = some (.type "function")) (il3 : K.lookup If3 = some ⟨Ioc3, Iod3, .func (PySem.W.fnOf "__init__" "TooMany.__init__" (defArgs s_init_TooMany) (defBody s_init_TooMany) (defScope s_init_TooMany) .none IkV3 Idc3 Ipm3 Ian3 Icd3 Ict3), Isl3⟩) (ic3 : PySem.W.codeIn K Icd3 "TooMany.__init__" = true) (ik3 : PySem.W.keepIn K (.ref If3) = true)
    (xp3_0 : PySem.W.subIn K (.ref C3) (.ref C0) = some false)
    (xp3_1 : PySem.W.subIn K (.ref C3) (.ref C1) = some false)
    (xp3_2 : PySem.W.subIn K (.ref C3) (.ref C2) = some false)
    (xp3_4 : PySem.W.subIn K (.ref C3) (.ref C4) = some false)
    (xp3_5 : PySem.W.subIn K (.ref C3) (.ref C5) = some false)
    (xp3_6 : PySem.W.subIn K (.ref C3) (.ref C6) = some false)
    (xp3_7 : PySem.W.subIn K (.ref C3) (.ref C7) = some false)
    (xp3_8 : PySem.W.subIn K (.ref C3) (.ref C8) = some false)
    (xp3_9 : PySem.W.subIn K (.ref C3) (.ref C9) = some false)
    (xp3_10 : PySem.W.subIn K (.ref C3) (.ref C10) = some false)
    (xp3_11 : PySem.W.subIn K (.ref C3) (.ref C11) = some false)
    (xp3_12 : PySem.W.subIn K (.ref C3) (.ref C12) = some false)
    (xp3_13 : PySem.W.subIn K (.ref C3) (.ref C13) = some false)
    (xp3_14 : PySem.W.subIn K (.ref C3) (.ref C14) = some false)
    (xp3_15 : PySem.W.subIn K (.ref C3) (.ref C15) = some false)
    (xp3_16 : PySem.W.subIn K (.ref C3) (.ref C16) = some false)
    (xp3_17 : PySem.W.subIn K (.ref C3) (.ref C17) = some false)
    (xp3_18 : PySem.W.subIn K (.ref C3) (.ref C18) = some false)
    (xp3_19 : PySem.W.subIn K (.ref C3) (.ref C19) = some false)
    (xp3_20 : PySem.W.subIn K (.ref C3) (.ref C20) = some false)
    (xp3_21 : PySem.W.subIn K (.ref C3) (.ref C21) = some false)
    (xn5most : PySem.W.findIn K (.ref C5) "most" = some none)
    (xn5name : PySem.W.findIn K (.ref C5) "name" = some none)
    (xn5number : PySem.W.findIn K (.ref C5) "number" = some none)
    (ia5 : PySem.W.findIn K (.ref C5) "__init__" = some (some (.ref If5))) (it5 : PySem.W.typeIn K (.ref If5) = some (.type "function")) (il5 : K.lookup If5 = some ⟨Ioc5, Iod5, .func (PySem.W.fnOf "__init__" "BadNumber.__init__" (defArgs s_init_BadNumber) (defBody s_init_BadNumber) (defScope s_init_BadNumber) .none IkV5 Idc5 Ipm5 Ian5 Icd5 Ict5), Isl5⟩) (ic5 : PySem.W.codeIn K Icd5 "BadNumber.__init__" = true) (ik5 : PySem.W.keepIn K (.ref If5) = true)
    (xp5_0 : PySem.W.subIn K (.ref C5) (.ref C0) = some false)
    (xp5_1 : PySem.W.subIn K (.ref C5) (.ref C1) = some false)
    (xp5_2 : PySem.W.subIn K (.ref C5) (.ref C2) = some false)
    (xp5_3 : PySem.W.subIn K (.ref C5) (.ref C3) = some false)
    (xp5_4 : PySem.W.subIn K (.ref C5) (.ref C4) = some false)
    (xp5_6 : PySem.W.subIn K (.ref C5) (.ref C6) = some false)
    (xp5_7 : PySem.W.subIn K (.ref C5) (.ref C7) = some false)
    (xp5_8 : PySem.W.subIn K (.ref C5) (.ref C8) = some false)
    (xp5_9 : PySem.W.subIn K (.ref C5) (.ref C9) = some false)
    (xp5_10 : PySem.W.subIn K (.ref C5) (.ref C10) = some false)
    (xp5_11 : PySem.W.subIn K (.ref C5) (.ref C11) = some false)
    (xp5_12 : PySem.W.subIn K (.ref C5) (.ref C12) = some false)
    (xp5_13 : PySem.W.subIn K (.ref C5) (.ref C13) = some false)
    (xp5_14 : PySem.W.subIn K (.ref C5) (.ref C14) = some false)
    (xp5_15 : PySem.W.subIn K (.ref C5) (.ref C15) = some false)
    (xp5_16 : PySem.W.subIn K (.ref C5) (.ref C16) = some false)
    (xp5_17 : PySem.W.subIn K (.ref C5) (.ref C17) = some false)
    (xp5_18 : PySem.W.subIn K (.ref C5) (.ref C18) = some false)
    (xp5_19 : PySem.W.subIn K (.ref C5) (.ref C19) = some false)
    (xp5_20 : PySem.W.subIn K (.ref C5) (.ref C20) = some false)
    (xp5_21 : PySem.W.subIn K (.ref C5) (.ref C21) = some false) :
    ∃ fd : FuncData, (∀ (s : Shared) (v : Value), BindsTo s fd ⟨[v], []⟩ [("script", v)]) ∧ ∀ base : Heap, K.In base → base.Ns mainGlobals mg → FnOk l.prog w K mg base (L2N.CX l.prog w) 8 fa fd ["script"] (DL.spLaw K) := by
  have e := hfa.symm.trans (PySem.W.mg_of X G a40)
  cases e
  have T : Tx K mg ⟨f0, 
      PySem.W.fnOf "divisions" "divisions" (defArgs s_divisions) (defBody s_divisions) (defScope s_divisions) .none kV0 dc0 pm0 an0 cd0 ct0, 
      f1, 
      PySem.W.fnOf "placings" "placings" (defArgs s_placings) (defBody s_placings) (defScope s_placings) .none kV1 dc1 pm1 an1 cd1 ct1, 
      f2, 
      PySem.W.fnOf "is_name" "is_name" (defArgs s_is_name) (defBody s_is_name) (defScope s_is_name) .none kV2 dc2 pm2 an2 cd2 ct2, 
      f3, 
      PySem.W.fnOf "check_name" "check_name" (defArgs s_check_name) (defBody s_check_name) (defScope s_check_name) .none kV3 dc3 pm3 an3 cd3 ct3, 
      f4, 
      PySem.W.fnOf "check_whole" "check_whole" (defArgs s_check_whole) (defBody s_check_whole) (defScope s_check_whole) .none kV4 dc4 pm4 an4 cd4 ct4, 
      f5, 
      PySem.W.fnOf "check_number" "check_number" (defArgs s_check_number) (defBody s_check_number) (defScope s_check_number) .none kV5 dc5 pm5 an5 cd5 ct5, 
      f6, 
      PySem.W.fnOf "name_tuple" "name_tuple" (defArgs s_name_tuple) (defBody s_name_tuple) (defScope s_name_tuple) .none kV6 dc6 pm6 an6 cd6 ct6, 
      f7, 
      PySem.W.fnOf "require_few" "require_few" (defArgs s_require_few) (defBody s_require_few) (defScope s_require_few) .none kV7 dc7 pm7 an7 cd7 ct7, 
      f8, 
      PySem.W.fnOf "all_partings" "all_partings" (defArgs s_all_partings) (defBody s_all_partings) (defScope s_all_partings) .none kV8 dc8 pm8 an8 cd8 ct8, 
      f9, 
      PySem.W.fnOf "count_partings" "count_partings" (defArgs s_count_partings) (defBody s_count_partings) (defScope s_count_partings) .none kV9 dc9 pm9 an9 cd9 ct9, 
      f10, 
      PySem.W.fnOf "_law_mixed" "_law_mixed" (defArgs s__law_mixed) (defBody s__law_mixed) (defScope s__law_mixed) .none kV10 dc10 pm10 an10 cd10 ct10, 
      f11, 
      PySem.W.fnOf "_law_store" "_law_store" (defArgs s__law_store) (defBody s__law_store) (defScope s__law_store) .none kV11 dc11 pm11 an11 cd11 ct11, 
      f12, 
      PySem.W.fnOf "_law_take" "_law_take" (defArgs s__law_take) (defBody s__law_take) (defScope s__law_take) .none kV12 dc12 pm12 an12 cd12 ct12, 
      f13, 
      PySem.W.fnOf "_law_once" "_law_once" (defArgs s__law_once) (defBody s__law_once) (defScope s__law_once) .none kV13 dc13 pm13 an13 cd13 ct13, 
      f14, 
      PySem.W.fnOf "_law_pick" "_law_pick" (defArgs s__law_pick) (defBody s__law_pick) (defScope s__law_pick) .none kV14 dc14 pm14 an14 cd14 ct14, 
      f15, 
      PySem.W.fnOf "_law_shuffled" "_law_shuffled" (defArgs s__law_shuffled) (defBody s__law_shuffled) (defScope s__law_shuffled) .none kV15 dc15 pm15 an15 cd15 ct15, 
      f16, 
      PySem.W.fnOf "_law_few" "_law_few" (defArgs s__law_few) (defBody s__law_few) (defScope s__law_few) .none kV16 dc16 pm16 an16 cd16 ct16, 
      f17, 
      PySem.W.fnOf "_law_passed" "_law_passed" (defArgs s__law_passed) (defBody s__law_passed) (defScope s__law_passed) .none kV17 dc17 pm17 an17 cd17 ct17, 
      f18, 
      PySem.W.fnOf "_law_number" "_law_number" (defArgs s__law_number) (defBody s__law_number) (defScope s__law_number) .none kV18 dc18 pm18 an18 cd18 ct18, 
      f19, 
      PySem.W.fnOf "_law_badnumber" "_law_badnumber" (defArgs s__law_badnumber) (defBody s__law_badnumber) (defScope s__law_badnumber) .none kV19 dc19 pm19 an19 cd19 ct19, 
      f20, 
      PySem.W.fnOf "_law_count" "_law_count" (defArgs s__law_count) (defBody s__law_count) (defScope s__law_count) .none kV20 dc20 pm20 an20 cd20 ct20, 
      f21, 
      PySem.W.fnOf "_law_name" "_law_name" (defArgs s__law_name) (defBody s__law_name) (defScope s__law_name) .none kV21 dc21 pm21 an21 cd21 ct21, 
      f22, 
      PySem.W.fnOf "_law_names" "_law_names" (defArgs s__law_names) (defBody s__law_names) (defScope s__law_names) .none kV22 dc22 pm22 an22 cd22 ct22, 
      f23, 
      PySem.W.fnOf "_law_strange" "_law_strange" (defArgs s__law_strange) (defBody s__law_strange) (defScope s__law_strange) .none kV23 dc23 pm23 an23 cd23 ct23, 
      f24, 
      PySem.W.fnOf "_law_isname" "_law_isname" (defArgs s__law_isname) (defBody s__law_isname) (defScope s__law_isname) .none kV24 dc24 pm24 an24 cd24 ct24, 
      f25, 
      PySem.W.fnOf "_law_badname" "_law_badname" (defArgs s__law_badname) (defBody s__law_badname) (defScope s__law_badname) .none kV25 dc25 pm25 an25 cd25 ct25, 
      f26, 
      PySem.W.fnOf "_law_bentnames" "_law_bentnames" (defArgs s__law_bentnames) (defBody s__law_bentnames) (defScope s__law_bentnames) .none kV26 dc26 pm26 an26 cd26 ct26, 
      f27, 
      PySem.W.fnOf "_law_namesdue" "_law_namesdue" (defArgs s__law_namesdue) (defBody s__law_namesdue) (defScope s__law_namesdue) .none kV27 dc27 pm27 an27 cd27 ct27, 
      f28, 
      PySem.W.fnOf "_law_flat" "_law_flat" (defArgs s__law_flat) (defBody s__law_flat) (defScope s__law_flat) .none kV28 dc28 pm28 an28 cd28 ct28, 
      f29, 
      PySem.W.fnOf "_law_same" "_law_same" (defArgs s__law_same) (defBody s__law_same) (defScope s__law_same) .none kV29 dc29 pm29 an29 cd29 ct29, 
      f30, 
      PySem.W.fnOf "_law_copied" "_law_copied" (defArgs s__law_copied) (defBody s__law_copied) (defScope s__law_copied) .none kV30 dc30 pm30 an30 cd30 ct30, 
      f31, 
      PySem.W.fnOf "_law_onekind" "_law_onekind" (defArgs s__law_onekind) (defBody s__law_onekind) (defScope s__law_onekind) .none kV31 dc31 pm31 an31 cd31 ct31, 
      f32, 
      PySem.W.fnOf "_law_told" "_law_told" (defArgs s__law_told) (defBody s__law_told) (defScope s__law_told) .none kV32 dc32 pm32 an32 cd32 ct32, 
      f33, 
      PySem.W.fnOf "_law_many" "_law_many" (defArgs s__law_many) (defBody s__law_many) (defScope s__law_many) .none kV33 dc33 pm33 an33 cd33 ct33, 
      f34, 
      PySem.W.fnOf "_law_islot" "_law_islot" (defArgs s__law_islot) (defBody s__law_islot) (defScope s__law_islot) .none kV34 dc34 pm34 an34 cd34 ct34, 
      f35, 
      PySem.W.fnOf "_law_islots" "_law_islots" (defArgs s__law_islots) (defBody s__law_islots) (defScope s__law_islots) .none kV35 dc35 pm35 an35 cd35 ct35, 
      f36, 
      PySem.W.fnOf "_law_isall" "_law_isall" (defArgs s__law_isall) (defBody s__law_isall) (defScope s__law_isall) .none kV36 dc36 pm36 an36 cd36 ct36, 
      f37, 
      PySem.W.fnOf "_law_answer" "_law_answer" (defArgs s__law_answer) (defBody s__law_answer) (defScope s__law_answer) .none kV37 dc37 pm37 an37 cd37 ct37, 
      f38, 
      PySem.W.fnOf "_law_counted" "_law_counted" (defArgs s__law_counted) (defBody s__law_counted) (defScope s__law_counted) .none kV38 dc38 pm38 an38 cd38 ct38, 
      f39, 
      PySem.W.fnOf "_law_asked" "_law_asked" (defArgs s__law_asked) (defBody s__law_asked) (defScope s__law_asked) .none kV39 dc39 pm39 an39 cd39 ct39, 
      fa, 
      PySem.W.fnOf "law" "law" (defArgs s_law) (defBody s_law) (defScope s_law) .none kV40 dc40 pm40 an40 cd40 ct40, 
      t0, 
      t1, 
      t2, 
      t3, 
      t4, 
      t5, 
      FE, 
      C0, 
      If0, 
      PySem.W.fnOf "__init__" "BadName.__init__" (defArgs s_init_BadName) (defBody s_init_BadName) (defScope s_init_BadName) .none IkV0 Idc0 Ipm0 Ian0 Icd0 Ict0, 
      C1, 
      If1, 
      PySem.W.fnOf "__init__" "RepeatedName.__init__" (defArgs s_init_RepeatedName) (defBody s_init_RepeatedName) (defScope s_init_RepeatedName) .none IkV1 Idc1 Ipm1 Ian1 Icd1 Ict1, 
      C2, 
      C3, 
      If3, 
      PySem.W.fnOf "__init__" "TooMany.__init__" (defArgs s_init_TooMany) (defBody s_init_TooMany) (defScope s_init_TooMany) .none IkV3 Idc3 Ipm3 Ian3 Icd3 Ict3, 
      C4, 
      C5, 
      If5, 
      PySem.W.fnOf "__init__" "BadNumber.__init__" (defArgs s_init_BadNumber) (defBody s_init_BadNumber) (defScope s_init_BadNumber) .none IkV5 Idc5 Ipm5 Ian5 Icd5 Ict5, 
      C6, 
      C7, 
      C8, 
      C9, 
      C10, 
      C11, 
      C12, 
      C13, 
      C14, 
      C15, 
      C16, 
      C17, 
      C18, 
      C19, 
      C20, 
      C21⟩ :=
    ⟨PySem.W.mg_of X G a0,
      fun_mk (st := s_divisions) l0 c0 k0,
      (fun_mk (st := s_divisions) l0 c0 k0).binds (ps := ["names", "many"]) fun _ _ _ _ _ _ us hl => match us, hl with | [_, _], _ => rfl,
      PySem.W.mg_of X G a1,
      fun_mk (st := s_placings) l1 c1 k1,
      (fun_mk (st := s_placings) l1 c1 k1).binds (ps := ["lots", "name", "many"]) fun _ _ _ _ _ _ us hl => match us, hl with | [_, _, _], _ => rfl,
      PySem.W.mg_of X G a2,
      fun_mk (st := s_is_name) l2 c2 k2,
      (fun_mk (st := s_is_name) l2 c2 k2).binds (ps := ["value"]) fun _ _ _ _ _ _ us hl => match us, hl with | [_], _ => rfl,
      PySem.W.mg_of X G a3,
      fun_mk (st := s_check_name) l3 c3 k3,
      (fun_mk (st := s_check_name) l3 c3 k3).binds (ps := ["value"]) fun _ _ _ _ _ _ us hl => match us, hl with | [_], _ => rfl,
      PySem.W.mg_of X G a4,
      fun_mk (st := s_check_whole) l4 c4 k4,
      (fun_mk (st := s_check_whole) l4 c4 k4).binds (ps := ["value"]) fun _ _ _ _ _ _ us hl => match us, hl with | [_], _ => rfl,
      PySem.W.mg_of X G a5,
      fun_mk (st := s_check_number) l5 c5 k5,
      (fun_mk (st := s_check_number) l5 c5 k5).binds (ps := ["value", "low", "high"]) fun _ _ _ _ _ _ us hl => match us, hl with | [_, _, _], _ => rfl,
      PySem.W.mg_of X G a6,
      fun_mk (st := s_name_tuple) l6 c6 k6,
      (fun_mk (st := s_name_tuple) l6 c6 k6).binds (ps := ["names"]) fun _ _ _ _ _ _ us hl => match us, hl with | [_], _ => rfl,
      PySem.W.mg_of X G a7,
      fun_mk (st := s_require_few) l7 c7 k7,
      (fun_mk (st := s_require_few) l7 c7 k7).binds (ps := ["names", "most"]) fun _ _ _ _ _ _ us hl => match us, hl with | [_, _], _ => rfl,
      PySem.W.mg_of X G a8,
      fun_mk (st := s_all_partings) l8 c8 k8,
      (fun_mk (st := s_all_partings) l8 c8 k8).binds (ps := ["names"]) fun _ _ _ _ _ _ us hl => match us, hl with | [_], _ => rfl,
      PySem.W.mg_of X G a9,
      fun_mk (st := s_count_partings) l9 c9 k9,
      (fun_mk (st := s_count_partings) l9 c9 k9).binds (ps := ["count"]) fun _ _ _ _ _ _ us hl => match us, hl with | [_], _ => rfl,
      PySem.W.mg_of X G a10,
      fun_mk (st := s__law_mixed) l10 c10 k10,
      (fun_mk (st := s__law_mixed) l10 c10 k10).binds (ps := ["number", "turn"]) fun _ _ _ _ _ _ us hl => match us, hl with | [_, _], _ => rfl,
      PySem.W.mg_of X G a11,
      fun_mk (st := s__law_store) l11 c11 k11,
      (fun_mk (st := s__law_store) l11 c11 k11).binds (ps := ["script"]) fun _ _ _ _ _ _ us hl => match us, hl with | [_], _ => rfl,
      PySem.W.mg_of X G a12,
      fun_mk (st := s__law_take) l12 c12 k12,
      (fun_mk (st := s__law_take) l12 c12 k12).binds (ps := ["store", "many"]) fun _ _ _ _ _ _ us hl => match us, hl with | [_, _], _ => rfl,
      PySem.W.mg_of X G a13,
      fun_mk (st := s__law_once) l13 c13 k13,
      (fun_mk (st := s__law_once) l13 c13 k13).binds (ps := ["store", "many"]) fun _ _ _ _ _ _ us hl => match us, hl with | [_, _], _ => rfl,
      PySem.W.mg_of X G a14,
      fun_mk (st := s__law_pick) l14 c14 k14,
      (fun_mk (st := s__law_pick) l14 c14 k14).binds (ps := ["store", "items"]) fun _ _ _ _ _ _ us hl => match us, hl with | [_, _], _ => rfl,
      PySem.W.mg_of X G a15,
      fun_mk (st := s__law_shuffled) l15 c15 k15,
      (fun_mk (st := s__law_shuffled) l15 c15 k15).binds (ps := ["store", "items"]) fun _ _ _ _ _ _ us hl => match us, hl with | [_, _], _ => rfl,
      PySem.W.mg_of X G a16,
      fun_mk (st := s__law_few) l16 c16 k16,
      (fun_mk (st := s__law_few) l16 c16 k16).binds (ps := ["store", "items", "count"]) fun _ _ _ _ _ _ us hl => match us, hl with | [_, _, _], _ => rfl,
      PySem.W.mg_of X G a17,
      fun_mk (st := s__law_passed) l17 c17 k17,
      (fun_mk (st := s__law_passed) l17 c17 k17).binds (ps := ["store", "items"]) fun _ _ _ _ _ _ us hl => match us, hl with | [_, _], _ => rfl,
      PySem.W.mg_of X G a18,
      fun_mk (st := s__law_number) l18 c18 k18,
      (fun_mk (st := s__law_number) l18 c18 k18).binds (ps := ["store", "low", "high"]) fun _ _ _ _ _ _ us hl => match us, hl with | [_, _, _], _ => rfl,
      PySem.W.mg_of X G a19,
      fun_mk (st := s__law_badnumber) l19 c19 k19,
      (fun_mk (st := s__law_badnumber) l19 c19 k19).binds (ps := ["store", "low", "high", "allowed"]) fun _ _ _ _ _ _ us hl => match us, hl with | [_, _, _, _], _ => rfl,
      PySem.W.mg_of X G a20,
      fun_mk (st := s__law_count) l20 c20 k20,
      (fun_mk (st := s__law_count) l20 c20 k20).binds (ps := ["store", "high"]) fun _ _ _ _ _ _ us hl => match us, hl with | [_, _], _ => rfl,
      PySem.W.mg_of X G a21,
      fun_mk (st := s__law_name) l21 c21 k21,
      (fun_mk (st := s__law_name) l21 c21 k21).binds (ps := ["store"]) fun _ _ _ _ _ _ us hl => match us, hl with | [_], _ => rfl,
      PySem.W.mg_of X G a22,
      fun_mk (st := s__law_names) l22 c22 k22,
      (fun_mk (st := s__law_names) l22 c22 k22).binds (ps := ["store", "count"]) fun _ _ _ _ _ _ us hl => match us, hl with | [_, _], _ => rfl,
      PySem.W.mg_of X G a23,
      fun_mk (st := s__law_strange) l23 c23 k23,
      (fun_mk (st := s__law_strange) l23 c23 k23).binds (ps := ["store", "names"]) fun _ _ _ _ _ _ us hl => match us, hl with | [_, _], _ => rfl,
      PySem.W.mg_of X G a24,
      fun_mk (st := s__law_isname) l24 c24 k24,
      (fun_mk (st := s__law_isname) l24 c24 k24).binds (ps := ["value"]) fun _ _ _ _ _ _ us hl => match us, hl with | [_], _ => rfl,
      PySem.W.mg_of X G a25,
      fun_mk (st := s__law_badname) l25 c25 k25,
      (fun_mk (st := s__law_badname) l25 c25 k25).binds (ps := ["store"]) fun _ _ _ _ _ _ us hl => match us, hl with | [_], _ => rfl,
      PySem.W.mg_of X G a26,
      fun_mk (st := s__law_bentnames) l26 c26 k26,
      (fun_mk (st := s__law_bentnames) l26 c26 k26).binds (ps := ["store", "names"]) fun _ _ _ _ _ _ us hl => match us, hl with | [_, _], _ => rfl,
      PySem.W.mg_of X G a27,
      fun_mk (st := s__law_namesdue) l27 c27 k27,
      (fun_mk (st := s__law_namesdue) l27 c27 k27).binds (ps := ["items"]) fun _ _ _ _ _ _ us hl => match us, hl with | [_], _ => rfl,
      PySem.W.mg_of X G a28,
      fun_mk (st := s__law_flat) l28 c28 k28,
      (fun_mk (st := s__law_flat) l28 c28 k28).binds (ps := ["rows"]) fun _ _ _ _ _ _ us hl => match us, hl with | [_], _ => rfl,
      PySem.W.mg_of X G a29,
      fun_mk (st := s__law_same) l29 c29 k29,
      (fun_mk (st := s__law_same) l29 c29 k29).binds (ps := ["actual", "due"]) fun _ _ _ _ _ _ us hl => match us, hl with | [_, _], _ => rfl,
      PySem.W.mg_of X G a30,
      fun_mk (st := s__law_copied) l30 c30 k30,
      (fun_mk (st := s__law_copied) l30 c30 k30).binds (ps := ["value"]) fun _ _ _ _ _ _ us hl => match us, hl with | [_], _ => rfl,
      PySem.W.mg_of X G a31,
      fun_mk (st := s__law_onekind) l31 c31 k31,
      (fun_mk (st := s__law_onekind) l31 c31 k31).binds (ps := ["error"]) fun _ _ _ _ _ _ us hl => match us, hl with | [_], _ => rfl,
      PySem.W.mg_of X G a32,
      fun_mk (st := s__law_told) l32 c32 k32,
      (fun_mk (st := s__law_told) l32 c32 k32).binds (ps := ["error"]) fun _ _ _ _ _ _ us hl => match us, hl with | [_], _ => rfl,
      PySem.W.mg_of X G a33,
      fun_mk (st := s__law_many) l33 c33 k33,
      (fun_mk (st := s__law_many) l33 c33 k33).binds (ps := ["count"]) fun _ _ _ _ _ _ us hl => match us, hl with | [_], _ => rfl,
      PySem.W.mg_of X G a34,
      fun_mk (st := s__law_islot) l34 c34 k34,
      (fun_mk (st := s__law_islot) l34 c34 k34).binds (ps := ["value", "names"]) fun _ _ _ _ _ _ us hl => match us, hl with | [_, _], _ => rfl,
      PySem.W.mg_of X G a35,
      fun_mk (st := s__law_islots) l35 c35 k35,
      (fun_mk (st := s__law_islots) l35 c35 k35).binds (ps := ["value", "names"]) fun _ _ _ _ _ _ us hl => match us, hl with | [_, _], _ => rfl,
      PySem.W.mg_of X G a36,
      fun_mk (st := s__law_isall) l36 c36 k36,
      (fun_mk (st := s__law_isall) l36 c36 k36).binds (ps := ["rows", "names"]) fun _ _ _ _ _ _ us hl => match us, hl with | [_, _], _ => rfl,
      PySem.W.mg_of X G a37,
      fun_mk (st := s__law_answer) l37 c37 k37,
      (fun_mk (st := s__law_answer) l37 c37 k37).binds (ps := ["items"]) fun _ _ _ _ _ _ us hl => match us, hl with | [_], _ => rfl,
      PySem.W.mg_of X G a38,
      fun_mk (st := s__law_counted) l38 c38 k38,
      (fun_mk (st := s__law_counted) l38 c38 k38).binds (ps := ["number"]) fun _ _ _ _ _ _ us hl => match us, hl with | [_], _ => rfl,
      PySem.W.mg_of X G a39,
      fun_mk (st := s__law_asked) l39 c39 k39,
      (fun_mk (st := s__law_asked) l39 c39 k39).binds (ps := ["items"]) fun _ _ _ _ _ _ us hl => match us, hl with | [_], _ => rfl,
      PySem.W.mg_of X G a40,
      fun_mk (st := s_law) l40 c40 k40,
      (fun_mk (st := s_law) l40 c40 k40).binds (ps := ["script"]) fun _ _ _ _ _ _ us hl => match us, hl with | [_], _ => rfl,
      PySem.W.mg_of X G gc0,
      PySem.W.mg_of X G gc1,
      PySem.W.mg_of X G gc2,
      PySem.W.mg_of X G gc3,
      PySem.W.mg_of X G gc4,
      PySem.W.mg_of X G gc5,
      ⟨fun s ws hl => match ws, hl with | [_], _ => .of_eq rfl, fun _ h => h, fun _ h => h⟩,
      ⟨fun s ws hl => match ws, hl with | [_], _ => .of_eq rfl, fun _ h => h, fun _ h => h⟩,
      PySem.W.mg_none_of X G zc0,
      PySem.W.mg_none_of X G zc1,
      PySem.W.mg_none_of X G zc2,
      PySem.W.mg_none_of X G zc3,
      PySem.W.mg_none_of X G zc4,
      PySem.W.mg_none_of X G zc5,
      PySem.W.mg_none_of X G zc6,
      PySem.W.mg_none_of X G zc7,
      PySem.W.mg_none_of X G zc8,
      PySem.W.mg_none_of X G zc9,
      PySem.W.mg_none_of X G zc10,
      PySem.W.mg_none_of X G zc11,
      PySem.W.mg_none_of X G zc12,
      PySem.W.mg_none_of X G zc13,
      PySem.W.mg_none_of X G zc14,
      PySem.W.mg_none_of X G zc15,
      PySem.W.mg_of X G fe0,
      ⟨fe1, fe2, fe3⟩,
      PySem.W.mg_of X G xa0,
      ⟨⟨⟨nm0, qn0, N0, bs0, bm0, sn0, sub0, ab0, col0, dd0, m00, m10, m20, m30, m50, xl0, xr0⟩, xs0, xe0, xt0, xk0⟩, ⟨xc0, xg0, xh0, xe0, xd0, xq0, ob0, ob1, xo0⟩, xc0, xu0, xf0, xv0⟩,
      xn0most,
      xn0name,
      xn0number,
      ia0,
      it0,
      fun_mk (st := s_init_BadName) il0 ic0 ik0,
      (fun_mk (st := s_init_BadName) il0 ic0 ik0).binds (ps := ["self", "name"]) fun _ _ _ _ _ _ us hl => match us, hl with | [_, _], _ => rfl,
      xp0_1,
      xp0_2,
      xp0_3,
      xp0_4,
      xp0_5,
      xp0_6,
      xp0_7,
      xp0_8,
      xp0_9,
      xp0_10,
      xp0_11,
      xp0_12,
      xp0_13,
      xp0_14,
      xp0_15,
      xp0_16,
      xp0_17,
      xp0_18,
      xp0_19,
      xp0_20,
      xp0_21,
      PySem.W.mg_of X G xa1,
      ⟨⟨⟨nm1, qn1, N1, bs1, bm1, sn1, sub1, ab1, col1, dd1, m01, m11, m21, m31, m51, xl1, xr1⟩, xs1, xe1, xt1, xk1⟩, ⟨xc1, xg1, xh1, xe1, xd1, xq1, ob0, ob1, xo1⟩, xc1, xu1, xf1, xv1⟩,
      xn1most,
      xn1name,
      xn1number,
      ia1,
      it1,
      fun_mk (st := s_init_RepeatedName) il1 ic1 ik1,
      (fun_mk (st := s_init_RepeatedName) il1 ic1 ik1).binds (ps := ["self", "name"]) fun _ _ _ _ _ _ us hl => match us, hl with | [_, _], _ => rfl,
      xp1_0,
      xp1_2,
      xp1_3,
      xp1_4,
      xp1_5,
      xp1_6,
      xp1_7,
      xp1_8,
      xp1_9,
      xp1_10,
      xp1_11,
      xp1_12,
      xp1_13,
      xp1_14,
      xp1_15,
      xp1_16,
      xp1_17,
      xp1_18,
      xp1_19,
      xp1_20,
      xp1_21,
      PySem.W.mg_of X G xa2,
      ⟨xc2, xt2⟩,
      PySem.W.mg_of X G xa3,
      ⟨⟨⟨nm3, qn3, N3, bs3, bm3, sn3, sub3, ab3, col3, dd3, m03, m13, m23, m33, m53, xl3, xr3⟩, xs3, xe3, xt3, xk3⟩, ⟨xc3, xg3, xh3, xe3, xd3, xq3, ob0, ob1, xo3⟩, xc3, xu3, xf3, xv3⟩,
      xn3most,
      xn3name,
      xn3number,
      ia3,
      it3,
      fun_mk (st := s_init_TooMany) il3 ic3 ik3,
      (fun_mk (st := s_init_TooMany) il3 ic3 ik3).binds (ps := ["self", "most"]) fun _ _ _ _ _ _ us hl => match us, hl with | [_, _], _ => rfl,
      xp3_0,
      xp3_1,
      xp3_2,
      xp3_4,
      xp3_5,
      xp3_6,
      xp3_7,
      xp3_8,
      xp3_9,
      xp3_10,
      xp3_11,
      xp3_12,
      xp3_13,
      xp3_14,
      xp3_15,
      xp3_16,
      xp3_17,
      xp3_18,
      xp3_19,
      xp3_20,
      xp3_21,
      PySem.W.mg_of X G xa4,
      ⟨xc4, xt4⟩,
      PySem.W.mg_of X G xa5,
      ⟨⟨⟨nm5, qn5, N5, bs5, bm5, sn5, sub5, ab5, col5, dd5, m05, m15, m25, m35, m55, xl5, xr5⟩, xs5, xe5, xt5, xk5⟩, ⟨xc5, xg5, xh5, xe5, xd5, xq5, ob0, ob1, xo5⟩, xc5, xu5, xf5, xv5⟩,
      xn5most,
      xn5name,
      xn5number,
      ia5,
      it5,
      fun_mk (st := s_init_BadNumber) il5 ic5 ik5,
      (fun_mk (st := s_init_BadNumber) il5 ic5 ik5).binds (ps := ["self", "number"]) fun _ _ _ _ _ _ us hl => match us, hl with | [_, _], _ => rfl,
      xp5_0,
      xp5_1,
      xp5_2,
      xp5_3,
      xp5_4,
      xp5_6,
      xp5_7,
      xp5_8,
      xp5_9,
      xp5_10,
      xp5_11,
      xp5_12,
      xp5_13,
      xp5_14,
      xp5_15,
      xp5_16,
      xp5_17,
      xp5_18,
      xp5_19,
      xp5_20,
      xp5_21,
      PySem.W.mg_of X G xa6,
      ⟨xc6, xt6⟩,
      PySem.W.mg_of X G xa7,
      ⟨xc7, xt7⟩,
      PySem.W.mg_of X G xa8,
      ⟨xc8, xt8⟩,
      PySem.W.mg_of X G xa9,
      ⟨xc9, xt9⟩,
      PySem.W.mg_of X G xa10,
      ⟨xc10, xt10⟩,
      PySem.W.mg_of X G xa11,
      ⟨xc11, xt11⟩,
      PySem.W.mg_of X G xa12,
      ⟨xc12, xt12⟩,
      PySem.W.mg_of X G xa13,
      ⟨xc13, xt13⟩,
      PySem.W.mg_of X G xa14,
      ⟨xc14, xt14⟩,
      PySem.W.mg_of X G xa15,
      ⟨xc15, xt15⟩,
      PySem.W.mg_of X G xa16,
      ⟨xc16, xt16⟩,
      PySem.W.mg_of X G xa17,
      ⟨xc17, xt17⟩,
      PySem.W.mg_of X G xa18,
      ⟨xc18, xt18⟩,
      PySem.W.mg_of X G xa19,
      ⟨xc19, xt19⟩,
      PySem.W.mg_of X G xa20,
      ⟨xc20, xt20⟩,
      PySem.W.mg_of X G xa21,
      ⟨xc21, xt21⟩⟩
  exact ⟨_, fun s v => .of_eq rfl, fun base _ _ => ok_law T⟩
end K38
section
open PySem PySem.W PyProof.Rows
set_option maxRecDepth 100000 in
set_option maxHeartbeats 0 in
theorem PySem.Challenge.cw_fourmet_k38_all_partings_holds : PySem.Challenge.rw_fourmet_k38_all_partings.Holds := by
  w_on; o_law; k_head; (case hw => w_witness2)
  k_fill
  refine L2.walk_of (l := PySem.Challenge.rw_fourmet_k38_all_partings) (n := 63) (k := 8) (x := "script") (CX := fun w => L2N.CX PySem.Challenge.rw_fourmet_k38_all_partings.prog w) (sp := fun w => DL.spLaw _) rfl (by decide) rfl ⟨rfl, by decide, by decide⟩ (fun w h Y => PySem.W.kIn_of Y) ?F (fun _ _ a ns hl _ hS => ⟨a, ns, rfl, hS, hl, fun _ => rfl⟩) (fun _ _ _ _ _ ⟨_, _, _, _, _, _, _, _, _, _, _, _, h⟩ => h)
  case F =>
    intro w mg fa h KX G hmg
    refine' K38.all_mk KX G hmg ?a0 ?l0 ?c0 ?k0 ?a1 ?l1 ?c1 ?k1 ?a2 ?l2 ?c2 ?k2 ?a3 ?l3 ?c3 ?k3 ?a4 ?l4 ?c4 ?k4 ?a5 ?l5 ?c5 ?k5 ?a6 ?l6 ?c6 ?k6 ?a7 ?l7 ?c7 ?k7 ?a8 ?l8 ?c8 ?k8 ?a9 ?l9 ?c9 ?k9 ?a10 ?l10 ?c10 ?k10 ?a11 ?l11 ?c11 ?k11 ?a12 ?l12 ?c12 ?k12 ?a13 ?l13 ?c13 ?k13 ?a14 ?l14 ?c14 ?k14 ?a15 ?l15 ?c15 ?k15 ?a16 ?l16 ?c16 ?k16 ?a17 ?l17 ?c17 ?k17 ?a18 ?l18 ?c18 ?k18 ?a19 ?l19 ?c19 ?k19 ?a20 ?l20 ?c20 ?k20 ?a21 ?l21 ?c21 ?k21 ?a22 ?l22 ?c22 ?k22 ?a23 ?l23 ?c23 ?k23 ?a24 ?l24 ?c24 ?k24 ?a25 ?l25 ?c25 ?k25 ?a26 ?l26 ?c26 ?k26 ?a27 ?l27 ?c27 ?k27 ?a28 ?l28 ?c28 ?k28 ?a29 ?l29 ?c29 ?k29 ?a30 ?l30 ?c30 ?k30 ?a31 ?l31 ?c31 ?k31 ?a32 ?l32 ?c32 ?k32 ?a33 ?l33 ?c33 ?k33 ?a34 ?l34 ?c34 ?k34 ?a35 ?l35 ?c35 ?k35 ?a36 ?l36 ?c36 ?k36 ?a37 ?l37 ?c37 ?k37 ?a38 ?l38 ?c38 ?k38 ?a39 ?l39 ?c39 ?k39 ?a40 ?l40 ?c40 ?k40 ?gc0 ?gc1 ?gc2 ?gc3 ?gc4 ?gc5 ?zc0 ?zc1 ?zc2 ?zc3 ?zc4 ?zc5 ?zc6 ?zc7 ?zc8 ?zc9 ?zc10 ?zc11 ?zc12 ?zc13 ?zc14 ?zc15 ?fe0 ?fe1 ?fe2 ?fe3 ?ob0 ?ob1 ?xa0 ?xl0 ?xr0 ?xs0 ?xe0 ?xt0 ?xk0 ?xc0 ?xg0 ?xh0 ?xd0 ?xq0 ?xo0 ?xu0 ?xf0 ?xv0 ?xa1 ?xl1 ?xr1 ?xs1 ?xe1 ?xt1 ?xk1 ?xc1 ?xg1 ?xh1 ?xd1 ?xq1 ?xo1 ?xu1 ?xf1 ?xv1 ?xa2 ?xc2 ?xt2 ?xa3 ?xl3 ?xr3 ?xs3 ?xe3 ?xt3 ?xk3 ?xc3 ?xg3 ?xh3 ?xd3 ?xq3 ?xo3 ?xu3 ?xf3 ?xv3 ?xa4 ?xc4 ?xt4 ?xa5 ?xl5 ?xr5 ?xs5 ?xe5 ?xt5 ?xk5 ?xc5 ?xg5 ?xh5 ?xd5 ?xq5 ?xo5 ?xu5 ?xf5 ?xv5 ?xa6 ?xc6 ?xt6 ?xa7 ?xc7 ?xt7 ?xa8 ?xc8 ?xt8 ?xa9 ?xc9 ?xt9 ?xa10 ?xc10 ?xt10 ?xa11 ?xc11 ?xt11 ?xa12 ?xc12 ?xt12 ?xa13 ?xc13 ?xt13 ?xa14 ?xc14 ?xt14 ?xa15 ?xc15 ?xt15 ?xa16 ?xc16 ?xt16 ?xa17 ?xc17 ?xt17 ?xa18 ?xc18 ?xt18 ?xa19 ?xc19 ?xt19 ?xa20 ?xc20 ?xt20 ?xa21 ?xc21 ?xt21 ?xn0most ?xn0name ?xn0number ?ia0 ?it0 ?il0 ?ic0 ?ik0 ?xp0_1 ?xp0_2 ?xp0_3 ?xp0_4 ?xp0_5 ?xp0_6 ?xp0_7 ?xp0_8 ?xp0_9 ?xp0_10 ?xp0_11 ?xp0_12 ?xp0_13 ?xp0_14 ?xp0_15 ?xp0_16 ?xp0_17 ?xp0_18 ?xp0_19 ?xp0_20 ?xp0_21 ?xn1most ?xn1name ?xn1number ?ia1 ?it1 ?il1 ?ic1 ?ik1 ?xp1_0 ?xp1_2 ?xp1_3 ?xp1_4 ?xp1_5 ?xp1_6 ?xp1_7 ?xp1_8 ?xp1_9 ?xp1_10 ?xp1_11 ?xp1_12 ?xp1_13 ?xp1_14 ?xp1_15 ?xp1_16 ?xp1_17 ?xp1_18 ?xp1_19 ?xp1_20 ?xp1_21 ?xn3most ?xn3name ?xn3number ?ia3 ?it3 ?il3 ?ic3 ?ik3 ?xp3_0 ?xp3_1 ?xp3_2 ?xp3_4 ?xp3_5 ?xp3_6 ?xp3_7 ?xp3_8 ?xp3_9 ?xp3_10 ?xp3_11 ?xp3_12 ?xp3_13 ?xp3_14 ?xp3_15 ?xp3_16 ?xp3_17 ?xp3_18 ?xp3_19 ?xp3_20 ?xp3_21 ?xn5most ?xn5name ?xn5number ?ia5 ?it5 ?il5 ?ic5 ?ik5 ?xp5_0 ?xp5_1 ?xp5_2 ?xp5_3 ?xp5_4 ?xp5_6 ?xp5_7 ?xp5_8 ?xp5_9 ?xp5_10 ?xp5_11 ?xp5_12 ?xp5_13 ?xp5_14 ?xp5_15 ?xp5_16 ?xp5_17 ?xp5_18 ?xp5_19 ?xp5_20 ?xp5_21
    (case a0 => k_is); (case l0 => k_is); (case c0 => k_is); (case k0 => k_is); (case a1 => k_is); (case l1 => k_is); (case c1 => k_is); (case k1 => k_is); (case a2 => k_is); (case l2 => k_is); (case c2 => k_is); (case k2 => k_is); (case a3 => k_is); (case l3 => k_is); (case c3 => k_is); (case k3 => k_is); (case a4 => k_is); (case l4 => k_is); (case c4 => k_is); (case k4 => k_is); (case a5 => k_is); (case l5 => k_is); (case c5 => k_is); (case k5 => k_is); (case a6 => k_is); (case l6 => k_is); (case c6 => k_is); (case k6 => k_is); (case a7 => k_is); (case l7 => k_is); (case c7 => k_is); (case k7 => k_is); (case a8 => k_is); (case l8 => k_is); (case c8 => k_is); (case k8 => k_is); (case a9 => k_is); (case l9 => k_is); (case c9 => k_is); (case k9 => k_is); (case a10 => k_is); (case l10 => k_is); (case c10 => k_is); (case k10 => k_is); (case a11 => k_is); (case l11 => k_is); (case c11 => k_is); (case k11 => k_is); (case a12 => k_is); (case l12 => k_is); (case c12 => k_is); (case k12 => k_is); (case a13 => k_is); (case l13 => k_is); (case c13 => k_is); (case k13 => k_is); (case a14 => k_is); (case l14 => k_is); (case c14 => k_is); (case k14 => k_is); (case a15 => k_is); (case l15 => k_is); (case c15 => k_is); (case k15 => k_is); (case a16 => k_is); (case l16 => k_is); (case c16 => k_is); (case k16 => k_is); (case a17 => k_is); (case l17 => k_is); (case c17 => k_is); (case k17 => k_is); (case a18 => k_is); (case l18 => k_is); (case c18 => k_is); (case k18 => k_is); (case a19 => k_is); (case l19 => k_is); (case c19 => k_is); (case k19 => k_is); (case a20 => k_is); (case l20 => k_is); (case c20 => k_is); (case k20 => k_is); (case a21 => k_is); (case l21 => k_is); (case c21 => k_is); (case k21 => k_is); (case a22 => k_is); (case l22 => k_is); (case c22 => k_is); (case k22 => k_is); (case a23 => k_is); (case l23 => k_is); (case c23 => k_is); (case k23 => k_is); (case a24 => k_is); (case l24 => k_is); (case c24 => k_is); (case k24 => k_is); (case a25 => k_is); (case l25 => k_is); (case c25 => k_is); (case k25 => k_is); (case a26 => k_is); (case l26 => k_is); (case c26 => k_is); (case k26 => k_is); (case a27 => k_is); (case l27 => k_is); (case c27 => k_is); (case k27 => k_is); (case a28 => k_is); (case l28 => k_is); (case c28 => k_is); (case k28 => k_is); (case a29 => k_is); (case l29 => k_is); (case c29 => k_is); (case k29 => k_is); (case a30 => k_is); (case l30 => k_is); (case c30 => k_is); (case k30 => k_is); (case a31 => k_is); (case l31 => k_is); (case c31 => k_is); (case k31 => k_is); (case a32 => k_is); (case l32 => k_is); (case c32 => k_is); (case k32 => k_is); (case a33 => k_is); (case l33 => k_is); (case c33 => k_is); (case k33 => k_is); (case a34 => k_is); (case l34 => k_is); (case c34 => k_is); (case k34 => k_is); (case a35 => k_is); (case l35 => k_is); (case c35 => k_is); (case k35 => k_is); (case a36 => k_is); (case l36 => k_is); (case c36 => k_is); (case k36 => k_is); (case a37 => k_is); (case l37 => k_is); (case c37 => k_is); (case k37 => k_is); (case a38 => k_is); (case l38 => k_is); (case c38 => k_is); (case k38 => k_is); (case a39 => k_is); (case l39 => k_is); (case c39 => k_is); (case k39 => k_is); (case a40 => k_is); (case l40 => k_is); (case c40 => k_is); (case k40 => k_is); (case gc0 => k_is); (case gc1 => k_is); (case gc2 => k_is); (case gc3 => k_is); (case gc4 => k_is); (case gc5 => k_is); (case zc0 => k_is); (case zc1 => k_is); (case zc2 => k_is); (case zc3 => k_is); (case zc4 => k_is); (case zc5 => k_is); (case zc6 => k_is); (case zc7 => k_is); (case zc8 => k_is); (case zc9 => k_is); (case zc10 => k_is); (case zc11 => k_is); (case zc12 => k_is); (case zc13 => k_is); (case zc14 => k_is); (case zc15 => k_is); (case fe0 => k_is); (case fe1 => k_is); (case fe2 => k_is); (case fe3 => k_is); (case ob0 => k_is); (case ob1 => k_is); (case xa0 => k_is); (case xl0 => k_is); (case xr0 => decide +kernel); (case xs0 => k_is); (case xe0 => k_is); (case xt0 => k_is); (case xk0 => k_is); (case xc0 => k_is); (case xg0 => k_is); (case xh0 => k_is); (case xd0 => k_is); (case xq0 => k_is); (case xo0 => k_is); (case xu0 => k_is); (case xf0 => k_is); (case xv0 => k_is); (case xa1 => k_is); (case xl1 => k_is); (case xr1 => decide +kernel); (case xs1 => k_is); (case xe1 => k_is); (case xt1 => k_is); (case xk1 => k_is); (case xc1 => k_is); (case xg1 => k_is); (case xh1 => k_is); (case xd1 => k_is); (case xq1 => k_is); (case xo1 => k_is); (case xu1 => k_is); (case xf1 => k_is); (case xv1 => k_is); (case xa2 => k_is); (case xc2 => k_is); (case xt2 => k_is); (case xa3 => k_is); (case xl3 => k_is); (case xr3 => decide +kernel); (case xs3 => k_is); (case xe3 => k_is); (case xt3 => k_is); (case xk3 => k_is); (case xc3 => k_is); (case xg3 => k_is); (case xh3 => k_is); (case xd3 => k_is); (case xq3 => k_is); (case xo3 => k_is); (case xu3 => k_is); (case xf3 => k_is); (case xv3 => k_is); (case xa4 => k_is); (case xc4 => k_is); (case xt4 => k_is); (case xa5 => k_is); (case xl5 => k_is); (case xr5 => decide +kernel); (case xs5 => k_is); (case xe5 => k_is); (case xt5 => k_is); (case xk5 => k_is); (case xc5 => k_is); (case xg5 => k_is); (case xh5 => k_is); (case xd5 => k_is); (case xq5 => k_is); (case xo5 => k_is); (case xu5 => k_is); (case xf5 => k_is); (case xv5 => k_is); (case xa6 => k_is); (case xc6 => k_is); (case xt6 => k_is); (case xa7 => k_is); (case xc7 => k_is); (case xt7 => k_is); (case xa8 => k_is); (case xc8 => k_is); (case xt8 => k_is); (case xa9 => k_is); (case xc9 => k_is); (case xt9 => k_is); (case xa10 => k_is); (case xc10 => k_is); (case xt10 => k_is); (case xa11 => k_is); (case xc11 => k_is); (case xt11 => k_is); (case xa12 => k_is); (case xc12 => k_is); (case xt12 => k_is); (case xa13 => k_is); (case xc13 => k_is); (case xt13 => k_is); (case xa14 => k_is); (case xc14 => k_is); (case xt14 => k_is); (case xa15 => k_is); (case xc15 => k_is); (case xt15 => k_is); (case xa16 => k_is); (case xc16 => k_is); (case xt16 => k_is); (case xa17 => k_is); (case xc17 => k_is); (case xt17 => k_is); (case xa18 => k_is); (case xc18 => k_is); (case xt18 => k_is); (case xa19 => k_is); (case xc19 => k_is); (case xt19 => k_is); (case xa20 => k_is); (case xc20 => k_is); (case xt20 => k_is); (case xa21 => k_is); (case xc21 => k_is); (case xt21 => k_is); (case xn0most => k_is); (case xn0name => k_is); (case xn0number => k_is); (case ia0 => k_is); (case it0 => k_is); (case il0 => k_is); (case ic0 => k_is); (case ik0 => k_is); (case xp0_1 => k_is); (case xp0_2 => k_is); (case xp0_3 => k_is); (case xp0_4 => k_is); (case xp0_5 => k_is); (case xp0_6 => k_is); (case xp0_7 => k_is); (case xp0_8 => k_is); (case xp0_9 => k_is); (case xp0_10 => k_is); (case xp0_11 => k_is); (case xp0_12 => k_is); (case xp0_13 => k_is); (case xp0_14 => k_is); (case xp0_15 => k_is); (case xp0_16 => k_is); (case xp0_17 => k_is); (case xp0_18 => k_is); (case xp0_19 => k_is); (case xp0_20 => k_is); (case xp0_21 => k_is); (case xn1most => k_is); (case xn1name => k_is); (case xn1number => k_is); (case ia1 => k_is); (case it1 => k_is); (case il1 => k_is); (case ic1 => k_is); (case ik1 => k_is); (case xp1_0 => k_is); (case xp1_2 => k_is); (case xp1_3 => k_is); (case xp1_4 => k_is); (case xp1_5 => k_is); (case xp1_6 => k_is); (case xp1_7 => k_is); (case xp1_8 => k_is); (case xp1_9 => k_is); (case xp1_10 => k_is); (case xp1_11 => k_is); (case xp1_12 => k_is); (case xp1_13 => k_is); (case xp1_14 => k_is); (case xp1_15 => k_is); (case xp1_16 => k_is); (case xp1_17 => k_is); (case xp1_18 => k_is); (case xp1_19 => k_is); (case xp1_20 => k_is); (case xp1_21 => k_is); (case xn3most => k_is); (case xn3name => k_is); (case xn3number => k_is); (case ia3 => k_is); (case it3 => k_is); (case il3 => k_is); (case ic3 => k_is); (case ik3 => k_is); (case xp3_0 => k_is); (case xp3_1 => k_is); (case xp3_2 => k_is); (case xp3_4 => k_is); (case xp3_5 => k_is); (case xp3_6 => k_is); (case xp3_7 => k_is); (case xp3_8 => k_is); (case xp3_9 => k_is); (case xp3_10 => k_is); (case xp3_11 => k_is); (case xp3_12 => k_is); (case xp3_13 => k_is); (case xp3_14 => k_is); (case xp3_15 => k_is); (case xp3_16 => k_is); (case xp3_17 => k_is); (case xp3_18 => k_is); (case xp3_19 => k_is); (case xp3_20 => k_is); (case xp3_21 => k_is); (case xn5most => k_is); (case xn5name => k_is); (case xn5number => k_is); (case ia5 => k_is); (case it5 => k_is); (case il5 => k_is); (case ic5 => k_is); (case ik5 => k_is); (case xp5_0 => k_is); (case xp5_1 => k_is); (case xp5_2 => k_is); (case xp5_3 => k_is); (case xp5_4 => k_is); (case xp5_6 => k_is); (case xp5_7 => k_is); (case xp5_8 => k_is); (case xp5_9 => k_is); (case xp5_10 => k_is); (case xp5_11 => k_is); (case xp5_12 => k_is); (case xp5_13 => k_is); (case xp5_14 => k_is); (case xp5_15 => k_is); (case xp5_16 => k_is); (case xp5_17 => k_is); (case xp5_18 => k_is); (case xp5_19 => k_is); (case xp5_20 => k_is); (case xp5_21 => k_is)
end
