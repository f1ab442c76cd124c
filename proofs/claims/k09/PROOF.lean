import PyProof.Rows.All
import Wide.All
import OpenK.AllK
import Wide.FinOn
import HandS.ForMost
import HandS.AnyAll
import HandS.GenOver
import HandS.GenList
import HandS.Set
import HandS.SetFor
import HandS.Strs
import HandS.SetTxt0
import HandS.More
import HandS.Sort
import PyProof.ReprRoads
import PyProof.ReprLen
import HandS.HeadHook4
import HandS.HeadWalk
import HandS.Head2
import HandS.HeadEnd
import HandS.DictComp
import HandS.IsInst
import HandS.WordsDict
import HandS.Wide
import HandS.RaiseOp
import PySem.Challenge.RW_asklines_k09_views_of_lines
import HandS.Walk
import HandS.Finally
import HandS.DeepEq
import Lean
import KE.KStateDown
import KE.KNestM
set_option Elab.async false
set_option linter.all false
set_option maxRecDepth 100000
set_option maxHeartbeats 4000000
namespace AL
open PySem PySem.Spec PyProof.Rows L2
open GxR (TabB TabG Tabbed inv_tab sh_eta)

theorem ge2_out (elt t0 i0 t1 i1 : Expr) (scope : Scope) (pos : Pos) (it acc : Value) (env : Env) :
    compTurn (.GeneratorExp elt [⟨t0, i0, [], 0⟩, ⟨t1, i1, [], 0⟩] scope pos) 0 it acc env = (do
      standAt i0.pos
      match ← pyNext it with
      | none => pure (.done .next)
      | some v =>
        letOwnedTupleGo t0 it v
        assign t0 env v
        let x ← eval i1 env
        standAt i1.pos
        let x ← foldedSetIterable i1 env x
        let _ ← runOwn (.compStart (.GeneratorExp elt [⟨t0, i0, [], 0⟩, ⟨t1, i1, [], 0⟩] scope pos) 1 (← holding [x] (pyIter x)) acc env) env
        again (.compLoop (.GeneratorExp elt [⟨t0, i0, [], 0⟩, ⟨t1, i1, [], 0⟩] scope pos) 0 it acc env)) := by rfl
theorem ge2_in (elt t0 i0 t1 i1 : Expr) (scope : Scope) (pos : Pos) (it acc : Value) (env : Env) :
    compTurn (.GeneratorExp elt [⟨t0, i0, [], 0⟩, ⟨t1, i1, [], 0⟩] scope pos) 1 it acc env = (do
      standAt i1.pos
      match ← pyNext it with
      | none => pure (.done .next)
      | some v =>
        letOwnedTupleGo t1 it v
        assign t1 env v
        (do let v ← eval elt env; standAt elt.pos; let _ ← yieldOut env v)
        again (.compLoop (.GeneratorExp elt [⟨t0, i0, [], 0⟩, ⟨t1, i1, [], 0⟩] scope pos) 1 it acc env)) := by rfl
theorem ge1 (elt t0 i0 : Expr) (scope : Scope) (pos : Pos) (it acc : Value) (env : Env) :
    compTurn (.GeneratorExp elt [⟨t0, i0, [], 0⟩] scope pos) 0 it acc env = (do
      standAt i0.pos
      match ← pyNext it with
      | none => pure (.done .next)
      | some v =>
        letOwnedTupleGo t0 it v
        assign t0 env v
        (do let v ← eval elt env; standAt elt.pos; let _ ← yieldOut env v)
        again (.compLoop (.GeneratorExp elt [⟨t0, i0, [], 0⟩] scope pos) 0 it acc env)) := by rfl

/-- the generator sleeps: its consumer touches nothing -/
structure Quietly (s s' : Shared) : Prop where
  heap : s'.heap = s.heap
  os : s'.os = s.os
  bare : AllBare s'.gens
theorem inv_quietly {X : Cx} {pins : List (Addr × Obj)} {σ : L2.St} {H : Hp} {s s' : Shared} (I : Inv X pins σ H s) (q : Quietly s s') : Inv X pins σ H s' := by
  obtain ⟨hh, g, d, t, o⟩ := s'
  obtain ⟨e1, e2, e3⟩ := q
  have e1 : hh = s.heap := e1
  subst e1
  exact ⟨I.ok, (show o = _ from e2).trans I.os, e3, I.base, I.loc, I.cell, I.free, I.freeC, I.pin, I.hok, I.len⟩
theorem quietly_trans {s s' s'' : Shared} (a : Quietly s s') (b : Quietly s' s'') : Quietly s s'' := ⟨b.heap.trans a.heap, b.os.trans a.os, b.bare⟩
theorem quietly_setGen {s : Shared} {g : Nat} {x : GenState} (h : AllBare s.gens) (hx : x.bare = true) : Quietly s (s.setGen g x) := ⟨rfl, rfl, allBare_setGen h hx⟩
theorem setGen_at {s : Shared} {g : Nat} {x : GenState} (h : g < s.gens.size) : (s.setGen g x).gens[g]? = some x := by
  show (s.gens.setIfInBounds g x)[g]? = some x
  rw [Array.getElem?_setIfInBounds_self_of_lt h]

/-- names of a generator expression -/
structure GOk (N : List Str) (sc scope : Scope) (own : List (Str × Nat)) : Prop where
  blk : BlkOk N sc scope own
  co : scope.isCoroutine = false
  cell : ∀ y ∈ scope.names, y.2 ≠ .cell
  dot : scope.names.lookup (".0" : Str) = some NameKind.local
theorem gOk_by {N : List Str} {sc scope : Scope} {own : List (Str × Nat)} (h : blkC N sc scope own = true) (h2 : scope.isCoroutine = false) (h3 : (scope.names.all fun y => match y.2 with | .cell => false | _ => true) = true)
    (h4 : scope.names.lookup (".0" : Str) = some NameKind.local) : GOk N sc scope own :=
  ⟨blkOk_by h, h2, fun y hy e => by
    have q := List.all_eq_true.mp h3 y hy
    rw [e] at q
    exact Bool.noConfusion q, h4⟩

/-- the context of a generator expression's frame: made at s, its iterator's objects fp, its generator pn -/
abbrev gcx (X : Cx) (s : Shared) (H : Hp) (cenv : Env) (fp : List Addr) (A : Around) (pn : List (Addr × Obj)) : Cx :=
  { X with s_0 := s, H_0 := H, env := cenv, outer := X.stack, stack := cenv :: X.stack, ex := fp, fn := fun _ => false, pn := pn, A := A, xe := fun _ _ => False }
section
variable {X : Cx} {pins : List (Addr × Obj)} {σ : L2.St} {H : Hp} {s : Shared}

theorem gen_start {scope : Scope} {own : List (Str × Nat)} {fp : List Addr} {code : Value} {A : Around} {s2 : Shared} {m : Str → Option Value} {pn : List (Addr × Obj)} (I : Inv X pins σ H s) (ok : GOk X.N X.env.scope scope own) (hN : X.N.Nodup)
    (hfp : ∀ b ∈ fp, FpOk X pins H b ∧ b < s.heap.objs.size) (hA : A.handled = none)
    (hAf : A.frames = some (genEnv scope (cloFrom X.env.cells scope.names []) s.heap.objs.size code builtinsNs X.env :: X.stack))
    (kp : ∀ b o, s.heap.get? b = some o → s2.heap.get? b = some o) (hn : s2.heap.Ns s.heap.objs.size m) (hos : s2.os = s.os) (hb : AllBare s2.gens)
    (hpn : ∀ p ∈ pn, s2.heap.get? p.1 = some p.2 ∧ s.heap.objs.size < p.1 ∧ ∀ v, p.2.data ≠ .cell v) :
    Inv (gcx X s H (genEnv scope (cloFrom X.env.cells scope.names []) s.heap.objs.size code builtinsNs X.env) fp A pn) [] (wipe σ (own.map (·.2))) H s2 := by
  have hfree : ∀ y ∈ scope.names, y.2 = .free → ∃ c, X.env.cells.lookup y.1 = some c := fun y hy e => by
    rcases ok.blk.free y hy e with k | k
    · exact I.ok.has _ (.inl k)
    · exact I.ok.has _ (.inr k)
  generalize hcenv : genEnv scope (cloFrom X.env.cells scope.names []) s.heap.objs.size code builtinsNs X.env = cenv at hAf ⊢
  have hL : cenv.locals = s.heap.objs.size := by rw [← hcenv]; rfl
  have hcl : cenv.cells = cloFrom X.env.cells scope.names [] := by rw [← hcenv]; rfl
  have hsc : cenv.scope = scope := by rw [← hcenv]; rfl
  have hfr : cenv.frame = some s.heap.objs.size := by rw [← hcenv]; rfl
  have hgl : cenv.globals = X.env.globals := by rw [← hcenv]; rfl
  have hbl : cenv.builtins = builtinsNs := by rw [← hcenv]; rfl
  have cm : ∀ {y c}, (y, c) ∈ cloFrom X.env.cells scope.names [] → X.env.cells.lookup y = some c ∧ c < s.heap.objs.size := fun {y c} hm => by
    rcases cloFrom_mem hm with hm | ⟨h1, rfl⟩
    · cases hm
    · obtain ⟨c, hc⟩ := hfree _ h1 rfl
      rw [hc]
      obtain ⟨w, z⟩ := I.cell _ _ hc
      exact ⟨rfl, z.lt⟩
  have mem : ∀ {y c}, cenv.cells.lookup y = some c → X.env.cells.lookup y = some c ∧ c < s.heap.objs.size := fun {y c} e => by
    rw [hcl] at e
    exact cm (PySem.mem_of_lookup e)
  have look : ∀ {y}, scope.names.lookup y = some .free → ∃ c, cenv.cells.lookup y = some c ∧ X.env.cells.lookup y = some c := fun {y} hl => by
    have hy : (y, NameKind.free) ∈ scope.names := PySem.mem_of_lookup hl
    obtain ⟨c', e'⟩ := mem_lookup (cloFrom_has (cells := X.env.cells) (acc := []) hy)
    rw [← hcl] at e'
    exact ⟨c', e', (mem e').1⟩
  have okB : (gcx X s H cenv fp A pn).Ok := by
    refine ⟨I.ok.mod, by show cenv.scope.kind = _; rw [hsc]; exact ok.blk.kind, by show cenv.globals = _; rw [hgl]; exact I.ok.glob, hbl, by show s.heap.objs.size ≤ cenv.locals; rw [hL]; exact Nat.le_refl _,
      fun y z c e1 e2 => I.ok.inj y z c (mem e1).1 (mem e2).1, fun y hy => ?_, fun y c z e => Bool.noConfusion z, fun _ => hA, hAf, .inr ⟨rfl, by rw [hfr, hL]⟩, fun b hb => ⟨?_, fun y c e z => ?_⟩, I.bs, Nat.le_trans I.ok.bsz I.sz, fun b o e hb => ?_, fun b hb z => ?_, I.stack, I.stkFree⟩
    · show ∃ c, cenv.cells.lookup y = some c
      have key : ∀ k, cenv.kindOf y = some k → (k = .cell ∨ k = .free) → ∃ c, cenv.cells.lookup y = some c := fun k hk hk' => by
        unfold Env.kindOf at hk
        rw [hsc] at hk
        rcases hk' with rfl | rfl
        · exact absurd rfl (ok.cell _ (PySem.mem_of_lookup hk))
        · obtain ⟨c, h1, _⟩ := look hk
          exact ⟨c, h1⟩
      rcases hy with hy | hy
      · exact key _ hy (.inl rfl)
      · exact key _ hy (.inr rfl)
    · show b ≠ cenv.locals
      rw [hL]; exact Nat.ne_of_lt (hfp b hb).2
    · exact (hfp b hb).1.2.2.2.2.1 y c (mem (show cenv.cells.lookup y = some c from e)).1 z
    · rcases (hfp b hb).1.2.2.2.1 with z | z
      · exact I.ok.noex b o e z
      · exact absurd (Nat.lt_of_lt_of_le (Heap.lt_size e) (Nat.le_trans I.ok.bsz z)) (Nat.lt_irrefl _)
    · rcases List.mem_cons.mp (I.stkSub b z) with z | z
      · exact (hfp b hb).1.2.1 z
      · exact (hfp b hb).1.2.2.1 z
  refine ⟨okB, hos, hb, Un.kept kp, ⟨m, ?_, fun i y av e1 e2 e3 => ?_⟩, fun y c e => ?_, ?_, fun y c e => ?_, fun p hp => ?_, I.hok.kept kp, by rw [wipe_length]; exact I.len⟩
  · show Heap.Ns _ cenv.locals _
    rw [hL]
    exact hn
  · obtain ⟨e2, hne⟩ := wipe_some e2
    have hfrr : scope.names.lookup y = some .free := by
      have e3 : Vis cenv.scope y := e3
      rw [hsc] at e3
      have no : ∀ k', scope.names.lookup y = some k' → ¬ (k' = .local ∨ k' = .cell) := fun k' e hh => by
        rcases ok.blk.own _ (PySem.mem_of_lookup e) hh with e' | e'
        · obtain ⟨p, hp, hpy⟩ := List.mem_map.mp e'
          have e3 := ok.blk.ix p hp
          have : p.1 = y := hpy
          rw [this] at e3
          exact hne (List.mem_map.mpr ⟨p, hp, nodup_ix hN e3 e1⟩)
        · exact e' (List.mem_of_getElem? e1)
      rcases e3 with e3 | e3 | e3
      · exact absurd (.inl rfl) (no _ e3)
      · exact absurd (.inr rfl) (no _ e3)
      · exact e3
    obtain ⟨m', hn', hl⟩ := I.loc
    have hvis : Vis X.env.scope y := (ok.blk.free _ (PySem.mem_of_lookup hfrr) rfl).elim (fun k => .inr (.inl k)) (fun k => .inr (.inr k))
    obtain ⟨w, r, q⟩ := hl i y av e1 e2 hvis
    refine ⟨w, r, .inr ⟨.inr (by show cenv.scope.names.lookup y = _; rw [hsc]; exact hfrr), ?_⟩⟩
    obtain ⟨c, h1, h2⟩ := look hfrr
    rcases q with ⟨k, _⟩ | ⟨_, c', e', z⟩
    · have k : X.env.scope.names.lookup y = some .local := k
      rcases ok.blk.free _ (PySem.mem_of_lookup hfrr) rfl with k' | k' <;> rw [show X.env.scope.names.lookup y = _ from k'] at k <;> cases k
    · rw [h2] at e'; cases e'
      exact ⟨c, h1, z.keeps kp⟩
  · have e : cenv.cells.lookup y = some c := e
    obtain ⟨w, z⟩ := I.cell y c (mem e).1
    exact ⟨w, z.keeps kp⟩
  · show H cenv.locals = none
    rw [hL]; exact I.hok.fresh (Nat.le_refl _)
  · have e : cenv.cells.lookup y = some c := e
    exact I.freeC y c (mem e).1
  · have hp : p ∈ pn := by
      rcases List.mem_append.mp hp with z | z
      · exact z
      · cases z
    obtain ⟨h1, h2, h3⟩ := hpn p hp
    refine ⟨h1, I.hok.fresh (Nat.le_of_lt h2), ?_, fun z => ?_, h3⟩
    · show p.1 ≠ cenv.locals
      rw [hL]; exact Nat.ne_of_gt h2
    · have z : p.1 ∈ frs X.stack := z
      rcases List.mem_cons.mp (I.stkSub _ z) with e | e
      · rw [e] at h2
        exact absurd (Nat.lt_trans I.lt h2) (Nat.lt_irrefl _)
      · exact I.nofs (Nat.le_of_lt h2) e
end
end AL
set_option Elab.async false
set_option linter.all false
set_option maxRecDepth 100000
set_option maxHeartbeats 4000000
namespace AL
open PySem PySem.Spec PyProof.Rows L2
open GxR (TabB TabG Tabbed inv_tab sh_eta)

/-- at a yield: a truth value; the one that ends the walk (d), or one that lets it go on -/
def GYA (a : Addr) (g : Nat) (d : Bool) (FinF : Shared → Prop) : Protocol := fun n s₀ v s kap =>
  ∃ b, v = .bool b ∧ s.heap.IsGen a g ∧ s.heap.NoLimit ∧ AllBare s.gens ∧ (b = d → FinF s) ∧ (b ≠ d → ∀ s', Quietly s s' → kap (.send .none) s')
abbrev GRA (FinT : Shared → Prop) : GenEnd := fun n s₀ r s₁ => r = .ok .next ∧ FinT s₁
/-- the generator at a, asleep; at most n items are to come -/
def GAt (P : Program) (w : World) (A : Around) (a : Addr) (g : Nat) (d : Bool) (FinT FinF : Shared → Prop) (n : Nat) (s : Shared) : Prop :=
  s.heap.IsGen a g ∧ s.heap.NoLimit ∧ AllBare s.gens ∧ ∃ gs, s.gens[g]? = some gs ∧ ∀ s', Quietly s s' → gs.Goes (model P w) A (GRA FinT) (GYA a g d FinF) n (.send .none) s'

section
variable {P : Program} {w : World} {A : Around} {a : Addr} {g : Nat} {FinT FinF : Shared → Prop}
theorem next_gen {d : Bool} {n : Nat} {s : Shared} {E : Value → Shared → Prop} {Q : Option Value → Shared → Prop} (hh : A.handled = none) (hroom : A.depth < recursionLimit) (h : GAt P w A.in1 a g d FinT FinF n s)
    (hT : ∀ s₁ s', FinT s₁ → AllBare s'.gens → s'.os = s₁.os → (∀ b o, s₁.heap.get? b = some o → s'.heap.get? b = some o) → Q none s')
    (hF : ∀ s₁ s', FinF s₁ → Quietly s₁ s' → Q (some (.bool d)) s')
    (hG : ∀ m s', m < n → GAt P w A.in1 a g d FinT FinF m s' → Q (some (.bool (!d))) s')
    (hTb : ∀ s, FinT s → AllBare s.gens) :
    wpAny (model P w) A (pyNext (.ref a)) Q E s := by
  obtain ⟨hg, hl, hb, gs, hgs, hgo⟩ := h
  have hlt : g < s.gens.size := (Array.getElem?_eq_some_iff.mp hgs).1
  refine GenW.wpAny_gsz (n := g + 1) hlt ?_
  refine wpAny_pyNext_genexpQ (P := fun _ _ s => FinT s) hh hl hroom hg hgs (hgo _ (quietly_setGen hb rfl)) (fun v s₁ gs' hgb hv => ?_) (fun s₁ hp h' hk => ?_)
  · intro hsz
    rw [GenW.setGen_size] at hsz
    obtain ⟨b, rfl, hg1, hl1, hb1, hd, hn⟩ := hv
    by_cases e : b = d
    · subst e
      exact hF s₁ _ (hd rfl) (quietly_setGen hb1 hgb)
    · have e2 : b = !d := by
        cases b <;> cases d <;> first | rfl | exact absurd rfl e
      have hn := hn e
      cases n with
      | zero => exact (hn s₁ ⟨rfl, rfl, hb1⟩).elim
      | succ m =>
        rw [e2]
        exact hG m _ (Nat.lt_succ_self m) ⟨hg1, hl1, allBare_setGen hb1 hgb, gs', setGen_at hsz, fun s' q => hn s' (quietly_trans (quietly_setGen hb1 hgb) q)⟩
  · intro _
    exact hT s₁ _ hp (allBare_setGen (s := s₁) (hTb s₁ hp) rfl) rfl hk

theorem all_gen_loop {R : Result → Shared → Prop} (hh : A.handled = none) (hroom : A.depth < recursionLimit)
    (hT : ∀ s₁ s', FinT s₁ → AllBare s'.gens → s'.os = s₁.os → (∀ b o, s₁.heap.get? b = some o → s'.heap.get? b = some o) → R (.ok (.ret (.bool true))) s')
    (hF : ∀ s₁ s', FinF s₁ → Quietly s₁ s' → R (.ok (.ret (.bool false))) s') (hTb : ∀ s, FinT s → AllBare s.gens) : ∀ (n : Nat) (s : Shared), GAt P w A.in1.in1 a g false FinT FinF n s →
      codeAny (model P w) A (.builtin "all.loop" ⟨[.ref a], []⟩) R s := by
  intro n
  induction n using Nat.strongRecOn with
  | _ n ih =>
    intro s h
    refine codeAny_builtin F.entry_all_loop ?_
    rw [Around.under_plainId F.plain_all_loop _]
    show wpAny _ A.in1 (pyNext (.ref a) >>= _) _ _ s
    refine wpAny_bind (next_gen (A := A.in1) hh hroom h (fun s₁ s' h1 h2 h3 h4 => ?_) (fun s₁ s' h1 h2 => ?_) (fun m s' hm h1 => ?_) hTb)
    · exact wpAny_bind (wpAny_rule (wpAny_pure (hT s₁ s' h1 h2 h3 h4)))
    · refine wpAny_bind (wpAny_holding (wpAny_truthy_bool ?_))
      refine wpAny_bind (wpAny_letGo ?_)
      simp only [Bool.false_eq_true, if_false]
      exact wpAny_bind (wpAny_rule (wpAny_pure (hF s₁ s' h1 h2)))
    · refine wpAny_bind (wpAny_holding (wpAny_truthy_bool ?_))
      refine wpAny_bind (wpAny_letGo ?_)
      simp only [Bool.not_false, if_true]
      exact wpAny_pure ⟨plainId_quiet F.plain_all_loop _, ih m hm s' h1⟩
theorem any_gen_loop {R : Result → Shared → Prop} (hh : A.handled = none) (hroom : A.depth < recursionLimit)
    (hT : ∀ s₁ s', FinT s₁ → AllBare s'.gens → s'.os = s₁.os → (∀ b o, s₁.heap.get? b = some o → s'.heap.get? b = some o) → R (.ok (.ret (.bool false))) s')
    (hF : ∀ s₁ s', FinF s₁ → Quietly s₁ s' → R (.ok (.ret (.bool true))) s') (hTb : ∀ s, FinT s → AllBare s.gens) : ∀ (n : Nat) (s : Shared), GAt P w A.in1.in1 a g true FinT FinF n s →
      codeAny (model P w) A (.builtin "any.loop" ⟨[.ref a], []⟩) R s := by
  intro n
  induction n using Nat.strongRecOn with
  | _ n ih =>
    intro s h
    refine codeAny_builtin F.entry_any_loop ?_
    rw [Around.under_plainId F.plain_any_loop _]
    show wpAny _ A.in1 (pyNext (.ref a) >>= _) _ _ s
    refine wpAny_bind (next_gen (A := A.in1) hh hroom h (fun s₁ s' h1 h2 h3 h4 => ?_) (fun s₁ s' h1 h2 => ?_) (fun m s' hm h1 => ?_) hTb)
    · exact wpAny_bind (wpAny_rule (wpAny_pure (hT s₁ s' h1 h2 h3 h4)))
    · refine wpAny_bind (wpAny_holding (wpAny_truthy_bool ?_))
      refine wpAny_bind (wpAny_letGo ?_)
      simp only [if_true]
      exact wpAny_bind (wpAny_rule (wpAny_pure (hF s₁ s' h1 h2)))
    · refine wpAny_bind (wpAny_holding (wpAny_truthy_bool ?_))
      refine wpAny_bind (wpAny_letGo ?_)
      simp only [Bool.not_true, Bool.false_eq_true, if_false]
      exact wpAny_pure ⟨plainId_quiet F.plain_any_loop _, ih m hm s' h1⟩
theorem call_all_gen {n : Nat} {s : Shared} {Q E : Value → Shared → Prop} (hh : A.handled = none) (hroom : A.depth < recursionLimit) (h : GAt P w A.in1.in1 a g false FinT FinF n s)
    (hT : ∀ s₁ s', FinT s₁ → AllBare s'.gens → s'.os = s₁.os → (∀ b o, s₁.heap.get? b = some o → s'.heap.get? b = some o) → Q (.bool true) s')
    (hF : ∀ s₁ s', FinF s₁ → Quietly s₁ s' → Q (.bool false) s') (hTb : ∀ s, FinT s → AllBare s.gens) :
    wpAny (model P w) A (call (.builtin "all") [.ref a]) Q E s := by
  refine call_function_tree F.kind_all F.plain_all F.entry_all (F.args_all1 _) ?_
  unfold Builtin.«all»
  refine wpAny_bind (m := oneArg "all" _) (wpAny_pure ?_)
  refine wpAny_bind (wpAny_pyIter_gen h.1 ?_)
  exact wpAny_pure ⟨plainId_quiet F.plain_all_loop _, all_gen_loop hh hroom hT hF hTb n s h⟩
theorem call_any_gen {n : Nat} {s : Shared} {Q E : Value → Shared → Prop} (hh : A.handled = none) (hroom : A.depth < recursionLimit) (h : GAt P w A.in1.in1 a g true FinT FinF n s)
    (hT : ∀ s₁ s', FinT s₁ → AllBare s'.gens → s'.os = s₁.os → (∀ b o, s₁.heap.get? b = some o → s'.heap.get? b = some o) → Q (.bool false) s')
    (hF : ∀ s₁ s', FinF s₁ → Quietly s₁ s' → Q (.bool true) s') (hTb : ∀ s, FinT s → AllBare s.gens) :
    wpAny (model P w) A (call (.builtin "any") [.ref a]) Q E s := by
  refine call_function_tree F.kind_any F.plain_any F.entry_any (F.args_any1 _) ?_
  unfold Builtin.«any»
  refine wpAny_bind (m := oneArg "any" _) (wpAny_pure ?_)
  refine wpAny_bind (wpAny_pyIter_gen h.1 ?_)
  exact wpAny_pure ⟨plainId_quiet F.plain_any_loop _, any_gen_loop hh hroom hT hF hTb n s h⟩
end
end AL
set_option Elab.async false
set_option linter.all false
set_option maxRecDepth 100000
set_option maxHeartbeats 4000000
namespace AL
open PySem PySem.Spec PyProof.Rows L2
open GxR (TabB TabG Tabbed inv_tab sh_eta)

/-- one clause: what is walked in the generator's frame -/
structure W1 (K : PySem.W.Frag) (J : It) (g : TG) (te : TE) (σ0 : L2.St) (vs : List Nat) (d : Bool) (QT QF : Hp → Prop) (W : Nat → Nat → Hp → Prop) : Prop where
  turn : ∀ i m H, W i m H → (J.stop i H ∧ QT H) ∨ (J.go i H ∧ ∀ x H', J.yld i H x H' → g x σ0 H' fun σ2 H2 => wipe σ2 vs = σ0 ∧ te σ2 H2 fun y H3 => ∃ b, y = .bl b ∧ (b = d → QF H3) ∧ (b ≠ d → ∃ m', m' < m ∧ W (i + 1) m' H3))

section
variable {X : Cx} {a : Addr} {g0 : Nat} {d : Bool} {FinT FinF : Shared → Prop} {QT QF : Hp → Prop} {s3 : Shared} {H3 : Hp} {ce : Env} {fp : List Addr} {A : Around} {go : Obj}

theorem seg_one {elt tg iter : Expr} {scope : Scope} {pos : Pos} {it : Addr} {tn : Nat → Heap → Prop} {J : It} {g : TG} {te : TE} {σ0 : L2.St} {vs : List Nat} {W : Nat → Nat → Hp → Prop}
    (hgo : ∀ h : Heap, h.get? a = some go → h.IsGen a g0)
    (hXA : ∀ c : Code, c = .compLoop (.GeneratorExp elt [⟨tg, iter, [], 0⟩] scope pos) 0 (.ref it) .none ce → A.over c [] = X.A) (hco : ce.scope.isCoroutine = false)
    (henv : X.env = ce) (hcalm : X.calm = true) (hxe : ∀ e s, ¬ X.xe e s) (hpn : (a, go) ∈ X.pn)
    (hpn2 : ∀ p ∈ X.pn, ∀ b ∈ fp, p.1 ≠ b) (hex : ∀ b ∈ fp, b ∈ X.ex)
    (T : Turn X.prog X.w X.K tg J fp it tn) (hw0 : ∀ vsσ : L2.St, wipe vsσ vs = σ0 → vsσ.length = σ0.length ∧ ∀ (i : Nat) v, σ0[i]? = some (some v) → vsσ[i]? = some (some v))
    (hg : PG X tg g) (he : PE X elt te) (w1 : W1 X.K J g te σ0 vs d QT QF W)
    (hT : ∀ H s, Inv X [] σ0 H s → QT H → FinT s) (hF : ∀ H s, Inv X [] σ0 H s → QF H → FinF s) :
    ∀ (m n i : Nat) (s₀ s : Shared) (H : Hp), m < n → W i m H → Inv X [] σ0 H s → tn i s.heap → (∀ b ∈ fp, H b = none) →
      Seg (model X.prog X.w) A (GRA FinT) (GYA a g0 d FinF) n s₀ (.compLoop (.GeneratorExp elt [⟨tg, iter, [], 0⟩] scope pos) 0 (.ref it) .none ce)
        ((model X.prog X.w).den (.compLoop (.GeneratorExp elt [⟨tg, iter, [], 0⟩] scope pos) 0 (.ref it) .none ce)) [] s := by
  have stat : ∀ {σ' : L2.St} {H' : Hp} {s' : Shared}, Inv X [] σ' H' s' → (∀ b ∈ fp, H' b = none) → ∀ b ∈ fp, FpOk X [] H' b := fun {σ' H' s'} I' hn b hb =>
    ⟨hn b hb, (I'.ok.exf b (hex b hb)).1, I'.ok.exfs b (hex b hb), .inl (hex b hb), fun x c e => (I'.ok.exf b (hex b hb)).2 x c e, fun p hp => by
      rcases List.mem_append.mp hp with z | z
      · exact hpn2 p z b hb
      · cases z⟩
  intro m
  induction m using Nat.strongRecOn with
  | _ m ih =>
    intro n i s₀ s H hmn hW I st hfp
    have hA := hXA _ rfl
    show Seg _ A _ _ _ s₀ _ ((compTurn (.GeneratorExp elt [⟨tg, iter, [], 0⟩] scope pos) 0 (.ref it) .none ce).onRaise (leaving ce)) [] s
    rw [ge1, Sem.onRaise_eq_wrap]
    refine seg_bind_wrap (wpAny_standAt ?_)
    rcases w1.turn i m H hW with ⟨stop, qt⟩ | ⟨go', step⟩
    · refine seg_bind_wrap ?_
      rw [hA]
      refine thn (T.done X rfl rfl rfl hcalm i [] s σ0 H _ I (stat I hfp) st stop) fun r s1 ⟨hr, I1⟩ => ?_
      subst hr
      exact seg_end (.ok .next) ⟨rfl, hT H s1 I1 qt⟩
    · refine seg_bind_wrap ?_
      rw [hA]
      refine thn (T.item X rfl rfl rfl hcalm i [] s σ0 H _ I (stat I hfp) st go') fun r s1 ⟨u, hr, h1⟩ => ?_
      subst hr
      refine seg_bind_wrap ?_
      rw [hA]
      refine wpAny_mono h1 (fun _ s2 hh => ?_) fun _ _ z => z
      obtain ⟨x, H2, I2, r2, y2, st2, n2⟩ := hh
      have I2' := I2.pinned (stat I2 n2) (T.obj _ _ st2)
      refine seg_bind_wrap ?_
      rw [hA]
      have hgr := hg.run _ s2 σ0 H2 x u _ I2' r2 (step x H2 y2)
      rw [henv] at hgr
      refine wpAny_mono hgr (fun _ s4 ⟨σ4, H4, I4, hw4, q4⟩ => ?_) fun e s' z => (hxe e s' z).elim
      have hy : ∀ v, yieldOut ce v = yieldValue v := fun v => by simp only [yieldOut, hco, Bool.false_eq_true, if_false]
      simp only [hy]
      rw [Sem.bind_eq_wrap', Sem.bind_eq_wrap', Sem.wrap_wrap, Sem.wrap_wrap]
      refine seg_wrap ?_
      rw [hA]
      have her := he.run _ s4 σ4 H4 _ I4 q4
      rw [henv] at her
      refine wpAny_mono her (fun yv s5 ⟨y, H5, I5, r5, b, hyb, qd, qn⟩ => ?_) fun e s' z => (hxe e s' z).elim
      subst hyb
      have r5 : yv = .bool b := r5
      subst r5
      have pin' : ∀ q ∈ fp, ∀ o, s2.heap.get? q = some o → s5.heap.get? q = some o ∧ H5 q = none := fun q hb o e =>
        let z := I5.pin (q, o) (List.mem_append_right _ (List.mem_append_right _ (mem_pinsAt hb e)))
        ⟨z.1, z.2.1⟩
      obtain ⟨hl4, hv4⟩ := hw0 σ4 hw4
      have I6 : Inv X [] σ0 H5 s5 := (I5.unpinned (pins := [])).weak hl4.symm fun j v e => hv4 j v e
      have hgen : s5.heap.IsGen a g0 := hgo _ (I6.pin (a, go) (List.mem_append_left _ hpn)).1
      by_cases hbd : b = d
      · cases n with
        | zero => omega
        | succ n => exact seg_at (seg_yield rfl rfl rfl ⟨b, rfl, hgen, I6.nolimit, I6.bare, fun _ => hF H5 s5 I6 (qd hbd), fun z => absurd hbd z⟩)
      · obtain ⟨m', hm', w'⟩ := qn hbd
        cases n with
        | zero => omega
        | succ n =>
          refine seg_at (seg_yield rfl rfl rfl ⟨b, rfl, hgen, I6.nolimit, I6.bare, fun z => absurd z hbd, fun _ s' q => ?_⟩)
          refine seg_again rfl (ih m' hm' n (i + 1) s' s' H5 (by omega) w' (inv_quietly I6 q) ?_ fun q' hb => ?_)
          · rw [q.heap]
            exact T.keep _ _ _ st2 fun q' hb o e => (pin' q' hb o e).1
          · obtain ⟨o, e, _⟩ := T.obj _ _ st2 q' hb
            exact (pin' q' hb o e).2
end
end AL
set_option Elab.async false
set_option linter.all false
set_option maxRecDepth 100000
set_option maxHeartbeats 4000000
namespace AL
open PySem PySem.Spec PyProof.Rows L2
open GxR (TabB TabG Tabbed inv_tab sh_eta)

theorem inv_ext {X : Cx} {pins : List (Addr × Obj)} {σ : L2.St} {H : Hp} {s s' : Shared} (I : Inv X pins σ H s) (ho : s'.os = s.os) (hb : AllBare s'.gens) (k : ∀ b o, s.heap.get? b = some o → s'.heap.get? b = some o) : Inv X pins σ H s' :=
  I.call' (ch := []) ho (Un.kept k) (I.hok.kept k) hb fun b z => by simp at z

/-- the frame's code, over its consumer -/
abbrev gcode (elt : Expr) (cs : List Comprehension) (scope : Scope) (pos : Pos) (it : Addr) (ce : Env) : Code := .compLoop (.GeneratorExp elt cs scope pos) 0 (.ref it) .none ce
theorem gcode_frames {elt : Expr} {cs : List Comprehension} {scope : Scope} {pos : Pos} {it : Addr} {ce : Env} {A : Around} {st : List Env} (h : A.frames = some st) : (A.over (gcode elt cs scope pos it ce) []).frames = some (ce :: st) := by
  show pushEnvs [ce] (pushEnvs [] A.frames) = _
  rw [h]
  rfl
theorem gcode_room {elt : Expr} {cs : List Comprehension} {scope : Scope} {pos : Pos} {it : Addr} {ce : Env} {A : Around} {k : Nat} (r : Room (k + 1) A) : Room k (A.in1.in1.over (gcode elt cs scope pos it ce) []) :=
  ⟨r.hd, by have := r.dp; show A.depth + 0 + 1 + 3 * k + 5 < _; omega, by have := r.un; show A.units + 1 + 1 + 0 + 3 + 16 * k + 200 < _; omega⟩

/-- a start of a generator expression's code -/
theorem seg_start {P : Program} {w : World} {A : Around} {R : GenEnd} {Y : Protocol} {n : Nat} {s₀ s : Shared} {elt tg iter : Expr} {cs : List Comprehension} {scope : Scope} {pos : Pos} {it : Addr} {ce : Env} {K : PySem.W.Frag} {J : It} {fp : List Addr} {tn : Nat → Heap → Prop} (T : Turn P w K tg J fp it tn) (st : tn 0 s.heap)
    (h : Seg (model P w) A R Y n s₀ (.compLoop (.GeneratorExp elt (⟨tg, iter, [], 0⟩ :: cs) scope pos) 0 (.ref it) .none ce) ((model P w).den (.compLoop (.GeneratorExp elt (⟨tg, iter, [], 0⟩ :: cs) scope pos) 0 (.ref it) .none ce)) [] s) :
    Seg (model P w) A R Y n s₀ (.compStart (.GeneratorExp elt (⟨tg, iter, [], 0⟩ :: cs) scope pos) 0 (.ref it) .none ce) ((model P w).den (.compStart (.GeneratorExp elt (⟨tg, iter, [], 0⟩ :: cs) scope pos) 0 (.ref it) .none ce)) [] s := by
  show Seg _ A _ _ _ s₀ _ ((compStart (.GeneratorExp elt (⟨tg, iter, [], 0⟩ :: cs) scope pos) 0 (.ref it) .none ce).onRaise (leaving ce)) [] s
  unfold compStart
  rw [Sem.onRaise_eq_wrap]
  show Seg _ A _ _ _ s₀ _ ((ask >>= _).wrap _ _ _ _) [] s
  refine seg_bind_wrap (wpAny_askSetting ?_)
  split
  · exact seg_again rfl h
  · refine seg_bind_wrap (wpAny_rule ?_)
    show Seg _ A _ _ _ s₀ _ ((standAt iter.pos >>= _).wrap _ _ _ _) [] s
    exact seg_bind_wrap (wpAny_standAt (seg_bind_wrap (T.self _ 0 s _ _ st (seg_again rfl h))))

theorem eval_ge (elt target iter : Expr) (cs : List Comprehension) (scope : Scope) (pos : Pos) (env : Env) (hco : scope.isCoroutine = false) :
    eval (.GeneratorExp elt (⟨target, iter, [], 0⟩ :: cs) scope pos) env = (do
      let x ← eval iter env
      standAt iter.pos
      let x ← genFold iter env x
      let it ← holding [x] (pyIter x)
      enterFrame
      let cl ← closureFor scope env
      let code ← genexprCode env pos (env.qual ++ "<genexpr>") scope
      let bi ← builtinsFor env.globals env.builtins
      let cenv ← newFunctionEnv scope env.globals cl [(".0", it)] (env.qual ++ "<genexpr>.") none code none bi
      newGenerator (.compStart (.GeneratorExp elt (⟨target, iter, [], 0⟩ :: cs) scope pos) 0 it .none cenv) "<genexpr>" (env.qual ++ "<genexpr>")) := by
  rw [arm_eval_GeneratorExp]
  simp only [hco, Bool.false_eq_true, if_false]
  cases iter <;> rfl
section
variable {M : Model} {A : Around} {E : Value → Shared → Prop} {s : Shared}
theorem make_ge {env : Env} {elt target iter : Expr} {cs : List Comprehension} {scope : Scope} {cl : List (Str × Addr)} {pos : Pos} {Q : Value → Shared → Prop}
    (hco : scope.isCoroutine = false) (hclos : closureFor scope env = pure cl) (hcell : ∀ y ∈ scope.names, y.2 ≠ .cell) (h0 : scope.names.lookup (".0" : Str) = some NameKind.local) (hkind : scope.kind = .function)
    (hroom : A.depth < recursionLimit)
    (h : wpAny M A (eval iter env) (fun xv s₁ => wpAny M A (pyIter xv) (fun it s₂ => s₂.heap.NoLimit ∧
      wpAny M A (genexprCode env pos (env.qual ++ "<genexpr>") scope) (fun code s₃ => wpAny M A (builtinsFor env.globals env.builtins) (fun bi s₄ =>
        ∀ h', h'.Ns s₄.heap.objs.size (fun y => if y = ".0" then some it else none) → Heap.SameBut s₄.heap.objs.size (s₄.heap.push { cls := .type "frame", data := .dict #[] }) h' →
          Q (.ref h'.objs.size) { s₄ with
            gens := s₄.gens.push (.fresh (.compStart (.GeneratorExp elt (⟨target, iter, [], 0⟩ :: cs) scope pos) 0 it .none (genEnv scope cl s₄.heap.objs.size code bi env))),
            toks := s₄.toks + 1 + 1 + 1,
            heap := h'.push { cls := .type "generator", data := .fields #[.int s₄.gens.size 0, .str "<genexpr>" (s₄.toks + 1), .str (env.qual ++ "<genexpr>") (s₄.toks + 1 + 1)] } }) E s₃) E s₂) E s₁) E s)
    (hs : ∀ x, genFold iter env x = pure x) :
    wpAny M A (eval (.GeneratorExp elt (⟨target, iter, [], 0⟩ :: cs) scope pos) env) Q E s := by
  rw [eval_ge _ _ _ _ _ _ _ hco, hclos]
  refine wpAny_bind (wpAny_mono h (fun xv s₁ h₁ => ?_) fun _ _ e => e)
  refine wpAny_bind (wpAny_standAt ?_)
  refine wpAny_bind (wpAny_of_eq (hs xv) ?_)
  refine wpAny_bind (wpAny_holding (wpAny_mono h₁ (fun it s₂ h₂ => ?_) fun _ _ e => e))
  refine wpAny_bind (wpAny_enterFrame h₂.1 hroom ?_)
  refine wpAny_bind (wpAny_pure ?_)
  refine wpAny_bind (wpAny_mono h₂.2 (fun code s₃ h₃ => ?_) fun _ _ e => e)
  refine wpAny_bind (wpAny_mono h₃ (fun bi s₄ h₄ => ?_) fun _ _ e => e)
  have hbinds : ∀ y ∈ ([((".0" : Str), it)] : List (Str × Value)), scope.names.lookup y.1 = some NameKind.local := by
    intro y hy
    rcases List.mem_cons.mp hy with rfl | hy
    · exact h0
    · cases hy
  refine wpAny_bind (wpAny_newFunctionEnv hcell hbinds (fun h' hn' hs' => ?_) hkind)
  have e : (fun y : Str => ([((".0" : Str), it)] : List (Str × Value)).reverse.lookup y) = fun y : Str => if y = (".0" : Str) then some it else none := by
    funext y
    by_cases hy : y = ".0"
    · subst hy; simp
    · have : (y == (".0" : Str)) = false := by simpa using hy
      simp [List.lookup, this, hy]
  rw [e] at hn'
  simp only [newGenerator, newFields]
  refine wpAny_bind (wpAny_newGen (wpAny_bind (wpAny_mkText (wpAny_bind (wpAny_mkText (wpAny_newObj_type ?_ (by size_fits)))))))
  exact h₄ h' hn' hs'
end
section
variable {X : Cx}
/-- a generator expression made, to be walked by all or any (the consumer's part is a letter) -/
theorem gen_made {pins : List (Addr × Obj)} {σ : L2.St} {H : Hp} {s : Shared} {elt tg iter : Expr} {cs : List Comprehension} {scope : Scope} {own : List (Str × Nat)} {gpos : Pos} {wi : TI} {c P : Addr} {R : It → Hp → Prop} {Q' : Value → Shared → Prop} {d : Bool} {Q : V → Hp → Prop} {k : Nat}
    (hr : Room (k + 1) X.A) (hc : X.calm = true) (hN : X.N.Nodup) (TB : TabB X.base X.mg c P) (hcode : X.env.code = .ref c) (ok : GOk X.N X.env.scope scope own) (hi : PI X tg iter wi) (hs : ∀ v, genFold iter X.env v = pure v)
    (I : Inv X pins σ H s) (h : wi σ H fun J H1 => TabG H1 P ∧ ∀ H2, Tabbed P H1 H2 → R J H2)
    (hseg : ∀ (it : Addr) (fp : List Addr) (tn : Nat → Heap → Prop) (J : It) (H3 : Hp) (s3 : Shared) (code : Value) (a g0 : Nat) (go : Obj), R J H3 → Turn X.prog X.w X.K tg J fp it tn → (∀ h : Heap, h.get? a = some go → h.IsGen a g0) → (∀ b ∈ fp, a ≠ b) → (∀ b ∈ fp, H3 b = none) →
      (∀ H s, Inv (gcx X s3 H3 (genEnv scope (cloFrom X.env.cells scope.names []) s3.heap.objs.size code builtinsNs X.env) fp (X.A.in1.in1.over (gcode elt (⟨tg, iter, [], 0⟩ :: cs) scope gpos it (genEnv scope (cloFrom X.env.cells scope.names []) s3.heap.objs.size code builtinsNs X.env)) []) [(a, go)]) [] (wipe σ (own.map (·.2))) H s → Inv X pins σ H s) →
      ∃ n, ∀ s', Inv (gcx X s3 H3 (genEnv scope (cloFrom X.env.cells scope.names []) s3.heap.objs.size code builtinsNs X.env) fp (X.A.in1.in1.over (gcode elt (⟨tg, iter, [], 0⟩ :: cs) scope gpos it (genEnv scope (cloFrom X.env.cells scope.names []) s3.heap.objs.size code builtinsNs X.env)) []) [(a, go)]) [] (wipe σ (own.map (·.2))) H3 s' → tn 0 s'.heap →
        Seg (model X.prog X.w) X.A.in1.in1 (GRA fun s => ∃ H', Inv X pins σ H' s ∧ Q (.bl (!d)) H') (GYA a g0 d fun s => ∃ H', Inv X pins σ H' s ∧ Q (.bl d) H') n s' (gcode elt (⟨tg, iter, [], 0⟩ :: cs) scope gpos it (genEnv scope (cloFrom X.env.cells scope.names []) s3.heap.objs.size code builtinsNs X.env))
          ((model X.prog X.w).den (gcode elt (⟨tg, iter, [], 0⟩ :: cs) scope gpos it (genEnv scope (cloFrom X.env.cells scope.names []) s3.heap.objs.size code builtinsNs X.env))) [] s')
    (hQ : ∀ (a : Addr) (g0 n : Nat) (s5 : Shared), GAt X.prog X.w X.A.in1.in1 a g0 d (fun s => ∃ H', Inv X pins σ H' s ∧ Q (.bl (!d)) H') (fun s => ∃ H', Inv X pins σ H' s ∧ Q (.bl d) H') n s5 → Q' (.ref a) s5) :
    wpAny (model X.prog X.w) X.A (eval (.GeneratorExp elt (⟨tg, iter, [], 0⟩ :: cs) scope gpos) X.env) Q' X.xe s := by
  have hfree : ∀ y ∈ scope.names, y.2 = .free → ∃ c, X.env.cells.lookup y.1 = some c := fun y hy e => by
    rcases ok.blk.free y hy e with k | k
    · exact I.ok.has _ (.inl k)
    · exact I.ok.has _ (.inr k)
  refine make_ge ok.co (closure_ok hfree) ok.cell ok.dot ok.blk.kind hr.depth (thn (hi.run pins s σ H _ I h) fun xv s1 hx => thn hx fun itv s2 h2 => ?_) hs
  obtain ⟨it, fp, tn, J, H2, e, I2, T, st2, f2, ⟨ps, hP, ht⟩, q2⟩ := h2
  subst e
  have hPs : s2.heap.get? P = some { cls := .none, data := .fields ps } := I2.hok P _ hP
  have cd : PySem.W.CodeHd s2.heap c P := TB.code.keeps fun b u e => I2.bk b u e
  have cont : ∀ (code : Value) (h3 : Heap) (tk : Nat) (ps' : Array Value), Heap.ExtBut P s2.heap h3 → h3.get? P = some { cls := .none, data := .fields ps' } → (∃ more, ps' = ps ++ more) → TriplesOk ps'.toList →
      wpAny (model X.prog X.w) X.A (builtinsFor X.env.globals X.env.builtins) (fun bi s₄ =>
        ∀ h', h'.Ns s₄.heap.objs.size (fun y => if y = ".0" then some (.ref it) else none) → Heap.SameBut s₄.heap.objs.size (s₄.heap.push { cls := .type "frame", data := .dict #[] }) h' →
          Q' (.ref h'.objs.size) { s₄ with
            gens := s₄.gens.push (.fresh (.compStart (.GeneratorExp elt (⟨tg, iter, [], 0⟩ :: cs) scope gpos) 0 (.ref it) .none (genEnv scope (cloFrom X.env.cells scope.names []) s₄.heap.objs.size code bi X.env))),
            toks := s₄.toks + 1 + 1 + 1,
            heap := h'.push { cls := .type "generator", data := .fields #[.int s₄.gens.size 0, .str "<genexpr>" (s₄.toks + 1), .str (X.env.qual ++ "<genexpr>") (s₄.toks + 1 + 1)] } }) X.xe { s2 with heap := h3, toks := tk } := by
    intro code h3 tk ps' hx hP3 hmore ht3
    obtain ⟨bm, ob, e1, e2, e3, e4, e5, e6, e7, e8⟩ := TB.bm
    have keep3 : ∀ b u, b ≠ P → s2.heap.get? b = some u → h3.get? b = some u := fun b u hb e => hx b u hb e
    refine wpAny_builtinsFor (m := X.mg) (by rw [I2.ok.glob]; exact (I2.mod.glob.keeps I2.bk).extBut hx TB.gP) e1 e2 (keep3 _ _ e4 (I2.bk _ _ e5)) e6 e7 e8 ?_
    obtain ⟨more, em⟩ := hmore
    have I3 : Inv X pins σ (upd H2 P (.tbl (ps ++ more))) { s2 with heap := h3, toks := tk } := inv_tab (g' := s2.gens) (d' := s2.drawn) I2 hP keep3 (by rw [← em]; exact hP3) I2.bare
    have hTab : Tabbed P H2 (upd H2 P (.tbl (ps ++ more))) := ⟨⟨ps ++ more, upd_same, by rw [← em]; exact ht3⟩, fun b hb => upd_ne hb⟩
    have qR := q2 _ hTab
    generalize upd H2 P (.tbl (ps ++ more)) = H3 at I3 hTab qR
    generalize hs3 : ({ s2 with heap := h3, toks := tk } : Shared) = s3 at I3 ⊢
    have e3h : s3.heap = h3 := by rw [← hs3]
    intro h' hn' hs'
    have fpP : ∀ b ∈ fp, b ≠ P := fun b hb z => by
      have := (f2 b hb).1
      rw [z, hP] at this
      cases this
    have f3n : ∀ b ∈ fp, H3 b = none := fun b hb => by rw [hTab.2 b (fpP b hb)]; exact (f2 b hb).1
    have f3 : ∀ b ∈ fp, FpOk X pins H3 b ∧ b < s3.heap.objs.size := fun b hb => by
      refine ⟨⟨f3n b hb, (f2 b hb).2⟩, ?_⟩
      obtain ⟨o, e, _⟩ := T.obj _ _ st2 b hb
      rw [e3h]
      exact Heap.lt_size (keep3 b o (fpP b hb) e)
    have st3 : tn 0 s3.heap := T.keep _ _ _ st2 fun b hb o e => by rw [e3h]; exact keep3 b o (fpP b hb) e
    generalize hgo : ({ cls := .type "generator", data := .fields #[.int s3.gens.size 0, .str "<genexpr>" (s3.toks + 1), .str (X.env.qual ++ "<genexpr>") (s3.toks + 1 + 1)] } : Obj) = go
    have hgen : ∀ h : Heap, h.get? h'.objs.size = some go → h.IsGen h'.objs.size s3.gens.size := fun h e => ⟨go, _, _, e, by rw [← hgo], by rw [← hgo], by rw [← hgo]⟩
    have hsz : h'.objs.size = s3.heap.objs.size + 1 := by rw [hs'.1, Heap.size_push]
    have keep' : ∀ b o, s3.heap.get? b = some o → h'.get? b = some o := fun b o e => hs'.extBut b o (Nat.ne_of_lt (Heap.lt_size e)) (Heap.get?_push_of_some _ e)
    have keep5 : ∀ b o, s3.heap.get? b = some o → (h'.push go).get? b = some o := fun b o e => Heap.get?_push_of_some _ (keep' b o e)
    have afp : ∀ b ∈ fp, h'.objs.size ≠ b := fun b hb z => by
      have := (f3 b hb).2
      rw [← z, hsz] at this
      exact absurd (Nat.lt_of_succ_lt this) (Nat.lt_irrefl _)
    have back : ∀ H s, Inv (gcx X s3 H3 (genEnv scope (cloFrom X.env.cells scope.names []) s3.heap.objs.size code builtinsNs X.env) fp (X.A.in1.in1.over (gcode elt (⟨tg, iter, [], 0⟩ :: cs) scope gpos it (genEnv scope (cloFrom X.env.cells scope.names []) s3.heap.objs.size code builtinsNs X.env)) []) [(h'.objs.size, go)]) [] (wipe σ (own.map (·.2))) H s → Inv X pins σ H s := fun H s I6 =>
      I3.call' (ch := fp) I6.os I6.base I6.hok I6.bare fun b hb => ⟨(f3 b hb).1.2.2.2.1, (f3 b hb).1.2.1, (f3 b hb).1.2.2.2.2.1, (f3 b hb).1.2.2.2.2.2⟩
    obtain ⟨n, hn⟩ := hseg it fp tn J H3 s3 code h'.objs.size s3.gens.size go qR T hgen afp f3n back
    refine hQ h'.objs.size s3.gens.size n _ ?_
    have nolim : ∀ {s' : Shared}, (∀ b o, s3.heap.get? b = some o → s'.heap.get? b = some o) → s'.heap.NoLimit := fun {s'} k => I3.nolimit.keeps k
    refine ⟨hgen _ (Heap.get?_push_size _ (by rw [← hgo]; rfl)), I3.nolimit.keeps keep5, AllBare.push I3.bare rfl, _, Array.getElem?_push_size .., fun s' q => ⟨rfl, ?_⟩⟩
    have kq : ∀ b o, s3.heap.get? b = some o → s'.heap.get? b = some o := fun b o e => by rw [q.heap]; exact keep5 b o e
    have st5 : tn 0 s'.heap := T.keep _ _ _ st3 fun b hb o e => kq b o e
    refine seg_start T st5 (hn s' ?_ st5)
    refine gen_start I3 ok hN f3 hr.hd (gcode_frames (I3.ok.frames)) kq (m := fun y => if y = ".0" then some (.ref it) else none) ?_ (q.os.trans rfl) q.bare fun p hp => ?_
    · rw [q.heap]
      exact hn'.push _
    · rw [List.mem_singleton.mp hp]
      refine ⟨by rw [q.heap]; exact Heap.get?_push_size _ (by rw [← hgo]; rfl), by show s3.heap.objs.size < h'.objs.size; rw [hsz]; exact Nat.lt_succ_self _, fun v z => ?_⟩
      rw [← hgo] at z
      cases z
  refine ⟨I2.nolimit, ?_⟩
  cases hf : codeAmong gpos ps.toList with
  | none =>
    refine wpAny_genexprCodeX hcode (cd.code hPs ht) (cd.tab hPs) hf fun c' h' tk hx hge hlt hco' _ htab' _ => ?_
    obtain ⟨o1, vs, f1, tf, fl, tg', inF, tx, tt, op, _, _, _, _, _, _, _, _, _, htr, _⟩ := hco'
    exact cont _ h' tk _ hx htab'.2 ⟨_, rfl⟩ htr
  | some cv =>
    refine wpAny_genexprCode_hit hcode (cd.code hPs ht) hf ?_
    exact cont cv s2.heap s2.toks ps (Heap.ExtBut.refl _ _) hPs ⟨#[], by simp⟩ ht
end
end AL
set_option Elab.async false
set_option linter.all false
set_option maxRecDepth 100000
set_option maxHeartbeats 4000000
namespace AL
open PySem PySem.Spec PyProof.Rows L2
open GxR (TabB TabG Tabbed inv_tab sh_eta)

theorem wipe_back {vs : List Nat} {σ0 σ : L2.St} (h : wipe σ vs = σ0) : σ.length = σ0.length ∧ ∀ (i : Nat) v, σ0[i]? = some (some v) → σ[i]? = some (some v) := by
  subst h
  exact ⟨(wipe_length _ _).symm, fun i v e => (wipe_some e).1⟩

/-- all(e for x in it) (d = false), any(..) (d = true): by an invariant over (turn, turns that may follow, heap) -/
def tQuant (K : PySem.W.Frag) (P : Addr) (d : Bool) (wi : TI) (g : TG) (te : TE) (vs : List Nat) : TE := fun σ H Q => wi σ H fun J H1 => TabG H1 P ∧ ∀ H2, Tabbed P H1 H2 →
  ∃ W : Nat → Nat → Hp → Prop, (∃ m, W 0 m H2) ∧ W1 K J g te (wipe σ vs) vs d (Q (.bl (!d))) (Q (.bl d)) W
section
variable {X : Cx} {c P : Addr} {elt tg iter : Expr} {scope : Scope} {own : List (Str × Nat)} {p pos gpos : Pos} {wi : TI} {g : TG} {te : TE} {k : Nat}
theorem gen_one {pins : List (Addr × Obj)} {σ : L2.St} {H : Hp} {s : Shared} {d : Bool} {Q : V → Hp → Prop} {Q' : Value → Shared → Prop}
    (hr : Room (k + 1) X.A) (hc : X.calm = true) (hN : X.N.Nodup) (TB : TabB X.base X.mg c P) (hcode : X.env.code = .ref c) (ok : GOk X.N X.env.scope scope own) (hi : PI X tg iter wi) (hs : ∀ v, genFold iter X.env v = pure v)
    (hg : ∀ (s : Shared) (H : Hp) (C : Addr) (cl : List (Str × Addr)) (code : Value) (fp : List Addr) (A : Around) (pn : List (Addr × Obj)), PG (gcx X s H (genEnv scope cl C code builtinsNs X.env) fp A pn) tg g)
    (he : ∀ (s : Shared) (H : Hp) (C : Addr) (cl : List (Str × Addr)) (code : Value) (fp : List Addr) (A : Around) (pn : List (Addr × Obj)), Room k A → PE (gcx X s H (genEnv scope cl C code builtinsNs X.env) fp A pn) elt te)
    (I : Inv X pins σ H s) (h : tQuant X.K P d wi g te (own.map (·.2)) σ H Q)
    (hQ : ∀ (a : Addr) (g0 n : Nat) (s5 : Shared), GAt X.prog X.w X.A.in1.in1 a g0 d (fun s => ∃ H', Inv X pins σ H' s ∧ Q (.bl (!d)) H') (fun s => ∃ H', Inv X pins σ H' s ∧ Q (.bl d) H') n s5 → Q' (.ref a) s5) :
    wpAny (model X.prog X.w) X.A (eval (.GeneratorExp elt [⟨tg, iter, [], 0⟩] scope gpos) X.env) Q' X.xe s := by
  refine gen_made (R := fun J H2 => ∃ W : Nat → Nat → Hp → Prop, (∃ m, W 0 m H2) ∧ W1 X.K J g te (wipe σ (own.map fun x : Str × Nat => x.2)) (own.map fun x : Str × Nat => x.2) d (Q (.bl (!d))) (Q (.bl d)) W) (d := d) (Q := Q)
    hr hc hN TB hcode ok hi hs I h (fun it fp tn J H3 s3 code a g0 go hR T hgen afp f3n back => ?_) hQ
  obtain ⟨W, ⟨m, w0⟩, w1⟩ := hR
  refine ⟨m + 1, fun s' I' st' => ?_⟩
  exact seg_one (X := gcx X s3 H3 (genEnv scope (cloFrom X.env.cells scope.names []) s3.heap.objs.size code builtinsNs X.env) fp (X.A.in1.in1.over (gcode elt [⟨tg, iter, [], 0⟩] scope gpos it (genEnv scope (cloFrom X.env.cells scope.names []) s3.heap.objs.size code builtinsNs X.env)) []) [(a, go)])
    (go := go) (QT := Q (.bl (!d))) (QF := Q (.bl d)) hgen (fun c e => by subst e; rfl) ok.co rfl hc (fun _ _ z => z) (List.mem_singleton.mpr rfl) (fun q hq b hb => by rw [List.mem_singleton.mp hq]; exact afp b hb) (fun b hb => hb)
    T (fun vσ hv => wipe_back hv) (hg _ _ _ _ _ _ _ _) (he _ _ _ _ _ _ _ _ (gcode_room hr)) w1 (fun H s I6 q => ⟨H, back H s I6, q⟩) (fun H s I6 q => ⟨H, back H s I6, q⟩) m (m + 1) 0 s' s' H3 (Nat.lt_succ_self m) w0 I' st' f3n
theorem pe_allG (hr : Room (k + 1) X.A) (hc : X.calm = true) (hN : X.N.Nodup) (hgl : Gl X "all") (hm : X.mg "all" = none) (TB : TabB X.base X.mg c P) (hcode : X.env.code = .ref c) (ok : GOk X.N X.env.scope scope own) (hi : PI X tg iter wi)
    (hg : ∀ (s : Shared) (H : Hp) (C : Addr) (cl : List (Str × Addr)) (code : Value) (fp : List Addr) (A : Around) (pn : List (Addr × Obj)), PG (gcx X s H (genEnv scope cl C code builtinsNs X.env) fp A pn) tg g)
    (he : ∀ (s : Shared) (H : Hp) (C : Addr) (cl : List (Str × Addr)) (code : Value) (fp : List Addr) (A : Around) (pn : List (Addr × Obj)), Room k A → PE (gcx X s H (genEnv scope cl C code builtinsNs X.env) fp A pn) elt te)
    (hs : ∀ v, genFold iter X.env v = pure v := by intro _; rfl) (hb : bootBuiltins "all" = some (.builtin "all") := by decide +kernel)
    (hst : starEach [.GeneratorExp elt [⟨tg, iter, [], 0⟩] scope gpos] X.env = (false, eval (.GeneratorExp elt [⟨tg, iter, [], 0⟩] scope gpos) X.env) :: starEach [] X.env := by rfl) :
    PE X (.Call (.Name "all" p) [.GeneratorExp elt [⟨tg, iter, [], 0⟩] scope gpos] [] pos) (tQuant X.K P false wi g te (own.map (·.2))) := by
  refine ⟨fun pins s σ H Q I h => ?_⟩
  refine wpAny_Call_Name_kw (ld_blt I hgl hm hb ?_)
  refine PyProof.Rows.callWith_builtin1 ?_ hst (by rfl)
  rw [hst]
  show wpAny _ _ (spliced ((false, eval (.GeneratorExp elt [⟨tg, iter, [], 0⟩] scope gpos) X.env) :: backTo pos (starEach [] X.env))) _ _ s
  refine Calls.spliced_cons (gen_one (Q := Q) hr hc hN TB hcode ok hi hs hg he I h fun a g0 n s5 hG => ?_)
  refine Calls.spliced_nil ?_
  refine call_all_gen hr.hd hr.depth hG (fun s₁ s' hT hb' ho k' => ?_) (fun s₁ s' hF q => ?_) fun s ⟨H', J, _⟩ => J.bare
  · obtain ⟨H', J, q'⟩ := hT
    exact ⟨.bl true, H', inv_ext J ho hb' k', rfl, q'⟩
  · obtain ⟨H', J, q'⟩ := hF
    exact ⟨.bl false, H', inv_quietly J q, rfl, q'⟩
theorem pe_anyG (hr : Room (k + 1) X.A) (hc : X.calm = true) (hN : X.N.Nodup) (hgl : Gl X "any") (hm : X.mg "any" = none) (TB : TabB X.base X.mg c P) (hcode : X.env.code = .ref c) (ok : GOk X.N X.env.scope scope own) (hi : PI X tg iter wi)
    (hg : ∀ (s : Shared) (H : Hp) (C : Addr) (cl : List (Str × Addr)) (code : Value) (fp : List Addr) (A : Around) (pn : List (Addr × Obj)), PG (gcx X s H (genEnv scope cl C code builtinsNs X.env) fp A pn) tg g)
    (he : ∀ (s : Shared) (H : Hp) (C : Addr) (cl : List (Str × Addr)) (code : Value) (fp : List Addr) (A : Around) (pn : List (Addr × Obj)), Room k A → PE (gcx X s H (genEnv scope cl C code builtinsNs X.env) fp A pn) elt te)
    (hs : ∀ v, genFold iter X.env v = pure v := by intro _; rfl) (hb : bootBuiltins "any" = some (.builtin "any") := by decide +kernel)
    (hst : starEach [.GeneratorExp elt [⟨tg, iter, [], 0⟩] scope gpos] X.env = (false, eval (.GeneratorExp elt [⟨tg, iter, [], 0⟩] scope gpos) X.env) :: starEach [] X.env := by rfl) :
    PE X (.Call (.Name "any" p) [.GeneratorExp elt [⟨tg, iter, [], 0⟩] scope gpos] [] pos) (tQuant X.K P true wi g te (own.map (·.2))) := by
  refine ⟨fun pins s σ H Q I h => ?_⟩
  refine wpAny_Call_Name_kw (ld_blt I hgl hm hb ?_)
  refine PyProof.Rows.callWith_builtin1 ?_ hst (by rfl)
  rw [hst]
  show wpAny _ _ (spliced ((false, eval (.GeneratorExp elt [⟨tg, iter, [], 0⟩] scope gpos) X.env) :: backTo pos (starEach [] X.env))) _ _ s
  refine Calls.spliced_cons (gen_one (Q := Q) hr hc hN TB hcode ok hi hs hg he I h fun a g0 n s5 hG => ?_)
  refine Calls.spliced_nil ?_
  refine call_any_gen hr.hd hr.depth hG (fun s₁ s' hT hb' ho k' => ?_) (fun s₁ s' hF q => ?_) fun s ⟨H', J, _⟩ => J.bare
  · obtain ⟨H', J, q'⟩ := hT
    exact ⟨.bl false, H', inv_ext J ho hb' k', rfl, q'⟩
  · obtain ⟨H', J, q'⟩ := hF
    exact ⟨.bl true, H', inv_quietly J q, rfl, q'⟩
end
end AL
set_option Elab.async false
set_option linter.all false
set_option maxRecDepth 100000
set_option maxHeartbeats 4000000
namespace AL
open PySem PySem.Spec PyProof.Rows L2
open GxR (TabB TabG Tabbed inv_tab sh_eta)

/-- the second clause's walk, from a turn of the first -/
structure W2in (K : PySem.W.Frag) (J : It) (g : TG) (te : TE) (σ1 : L2.St) (vs1 : List Nat) (d : Bool) (QF : Hp → Prop) (m : Nat) (Nx : Nat → Hp → Prop) (W : Nat → Nat → Hp → Prop) : Prop where
  turn : ∀ j n H, n ≤ m → W j n H → (J.stop j H ∧ ∃ n', n' < m ∧ n' ≤ n ∧ Nx n' H) ∨ (J.go j H ∧ ∀ x H', J.yld j H x H' → g x σ1 H' fun σ2 H2 => wipe σ2 vs1 = σ1 ∧ te σ2 H2 fun y H3 => ∃ b, y = .bl b ∧ (b = d → QF H3) ∧ (b ≠ d → ∃ n', n' < n ∧ W (j + 1) n' H3))
/-- two clauses: the outer invariant W; a turn's own -/
structure W2 (K : PySem.W.Frag) (J : It) (g : TG) (wi1 : TI) (g1 : TG) (te : TE) (σ0 : L2.St) (vs0 vs1 : List Nat) (d : Bool) (QT QF : Hp → Prop) (W : Nat → Nat → Hp → Prop) : Prop where
  turn : ∀ i m H, W i m H → (J.stop i H ∧ QT H) ∨ (J.go i H ∧ ∀ x H', J.yld i H x H' → g x σ0 H' fun σ1 H2 => wipe σ1 vs0 = σ0 ∧ wi1 σ1 H2 fun J1 H3 =>
    ∃ WI : Nat → Nat → Hp → Prop, (∃ n, n ≤ m ∧ WI 0 n H3) ∧ W2in K J1 g1 te σ1 vs1 d QF m (fun n' H => W (i + 1) n' H) WI)

section
variable {X : Cx} {a : Addr} {g0 : Nat} {d : Bool} {FinT FinF : Shared → Prop} {QT QF : Hp → Prop} {ce : Env} {fp : List Addr} {A : Around} {go : Obj}

/-- the second clause's loop -/
theorem seg_inner {elt t0 i0 tg iter : Expr} {scope : Scope} {pos ppos : Pos} {it0 it : Addr} {tn : Nat → Heap → Prop} {J : It} {g : TG} {te : TE} {σ1 : L2.St} {vs1 : List Nat} {W : Nat → Nat → Hp → Prop} {fp1 : List Addr} {pins : List (Addr × Obj)} {m : Nat} {Nx : Nat → Hp → Prop}
    {k : Result → Sem PySem.Fin} {hm : Option Value} {lv : List Value} {kp : List Value}
    (hgo : ∀ h : Heap, h.get? a = some go → h.IsGen a g0)
    (hXA : A.over (.compLoop (.GeneratorExp elt [⟨t0, i0, [], 0⟩, ⟨tg, iter, [], 0⟩] scope pos) 1 (.ref it) .none ce) [.ret k hm false lv (.compLoop (.GeneratorExp elt [⟨t0, i0, [], 0⟩, ⟨tg, iter, [], 0⟩] scope pos) 0 (.ref it0) .none ce) ppos kp] = X.A) (hco : ce.scope.isCoroutine = false)
    (henv : X.env = ce) (hcalm : X.calm = true) (hxe : ∀ e s, ¬ X.xe e s) (hpn : (a, go) ∈ X.pn)
    (T : Turn X.prog X.w X.K tg J fp1 it tn) (hg : PG X tg g) (he : PE X elt te) (w1 : W2in X.K J g te σ1 vs1 d QF m Nx W)
    (hF : ∀ H s, Inv X pins σ1 H s → QF H → FinF s) (n0 : Nat)
    (hk : ∀ (n' n : Nat) (s₀ s : Shared) (H : Hp), n' < m → n' < n → Nx n' H → Inv X pins σ1 H s → Seg (model X.prog X.w) A (GRA FinT) (GYA a g0 d FinF) n s₀ (.compLoop (.GeneratorExp elt [⟨t0, i0, [], 0⟩, ⟨tg, iter, [], 0⟩] scope pos) 0 (.ref it0) .none ce) (k (.ok .next)) [] s) :
    ∀ (m1 n j : Nat) (s₀ s : Shared) (H : Hp), m1 < n → m1 ≤ m → W j m1 H → Inv X pins σ1 H s → tn j s.heap → (∀ b ∈ fp1, FpOk X pins H b) →
      Seg (model X.prog X.w) A (GRA FinT) (GYA a g0 d FinF) n s₀ (.compLoop (.GeneratorExp elt [⟨t0, i0, [], 0⟩, ⟨tg, iter, [], 0⟩] scope pos) 1 (.ref it) .none ce)
        ((model X.prog X.w).den (.compLoop (.GeneratorExp elt [⟨t0, i0, [], 0⟩, ⟨tg, iter, [], 0⟩] scope pos) 1 (.ref it) .none ce)) [.ret k hm false lv (.compLoop (.GeneratorExp elt [⟨t0, i0, [], 0⟩, ⟨tg, iter, [], 0⟩] scope pos) 0 (.ref it0) .none ce) ppos kp] s := by
  intro m1
  induction m1 using Nat.strongRecOn with
  | _ m1 ih =>
    intro n j s₀ s H hmn hmm hW I st hfp
    show Seg _ A _ _ _ s₀ _ ((compTurn (.GeneratorExp elt [⟨t0, i0, [], 0⟩, ⟨tg, iter, [], 0⟩] scope pos) 1 (.ref it) .none ce).onRaise (fun x => do noteFrame x ce; theTreesLotGoes x)) _ s
    rw [ge2_in, Sem.onRaise_eq_wrap]
    refine seg_bind_wrap (wpAny_standAt ?_)
    rcases w1.turn j m1 H hmm hW with ⟨stop, n', h1, h2, nx⟩ | ⟨go', step⟩
    · refine seg_bind_wrap ?_
      rw [hXA]
      refine thn (T.done X rfl rfl rfl hcalm j pins s σ1 H _ I hfp st stop) fun r s1 ⟨hr, I1⟩ => ?_
      subst hr
      exact seg_leaf (.ok .next) (hk n' n s₀ s1 H h1 (by omega) nx I1)
    · refine seg_bind_wrap ?_
      rw [hXA]
      refine thn (T.item X rfl rfl rfl hcalm j pins s σ1 H _ I hfp st go') fun r s1 ⟨u, hr, h1⟩ => ?_
      subst hr
      refine seg_bind_wrap ?_
      rw [hXA]
      refine wpAny_mono h1 (fun _ s2 hh => ?_) fun _ _ z => z
      obtain ⟨x, H2, I2, r2, y2, st2, n2⟩ := hh
      have fp2 : ∀ b ∈ fp1, FpOk X pins H2 b := fun b hb => ⟨n2 b hb, (hfp b hb).2⟩
      have I2' := I2.pinned fp2 (T.obj _ _ st2)
      refine seg_bind_wrap ?_
      rw [hXA]
      have hgr := hg.run _ s2 σ1 H2 x u _ I2' r2 (step x H2 y2)
      rw [henv] at hgr
      refine wpAny_mono hgr (fun _ s4 ⟨σ4, H4, I4, hw4, q4⟩ => ?_) fun e s' z => (hxe e s' z).elim
      have hy : ∀ v, yieldOut ce v = yieldValue v := fun v => by simp only [yieldOut, hco, Bool.false_eq_true, if_false]
      simp only [hy]
      rw [Sem.bind_eq_wrap', Sem.bind_eq_wrap', Sem.wrap_wrap, Sem.wrap_wrap]
      refine seg_wrap ?_
      rw [hXA]
      have her := he.run _ s4 σ4 H4 _ I4 q4
      rw [henv] at her
      refine wpAny_mono her (fun yv s5 ⟨y, H5, I5, r5, b, hyb, qd, qn⟩ => ?_) fun e s' z => (hxe e s' z).elim
      subst hyb
      have r5 : yv = .bool b := r5
      subst r5
      have pin' : ∀ q ∈ fp1, ∀ o, s2.heap.get? q = some o → s5.heap.get? q = some o ∧ H5 q = none := fun q hb o e =>
        let z := I5.pin (q, o) (List.mem_append_right _ (List.mem_append_right _ (mem_pinsAt hb e)))
        ⟨z.1, z.2.1⟩
      obtain ⟨hl4, hv4⟩ := wipe_back hw4
      have I6 : Inv X pins σ1 H5 s5 := (I5.unpinned (pins := pins)).weak hl4.symm fun j v e => hv4 j v e
      have hgen : s5.heap.IsGen a g0 := hgo _ (I6.pin (a, go) (List.mem_append_left _ hpn)).1
      by_cases hbd : b = d
      · cases n with
        | zero => omega
        | succ n => exact seg_at (seg_yield rfl rfl rfl ⟨b, rfl, hgen, I6.nolimit, I6.bare, fun _ => hF H5 s5 I6 (qd hbd), fun z => absurd hbd z⟩)
      · obtain ⟨m', hm', w'⟩ := qn hbd
        cases n with
        | zero => omega
        | succ n =>
          refine seg_at (seg_yield rfl rfl rfl ⟨b, rfl, hgen, I6.nolimit, I6.bare, fun z => absurd z hbd, fun _ s' q => ?_⟩)
          refine seg_again rfl (ih m' hm' n (j + 1) s' s' H5 (by omega) (by omega) w' (inv_quietly I6 q) ?_ fun q' hb => ?_)
          · rw [q.heap]
            exact T.keep _ _ _ st2 fun q' hb o e => (pin' q' hb o e).1
          · obtain ⟨o, e, _⟩ := T.obj _ _ st2 q' hb
            exact ⟨(pin' q' hb o e).2, (hfp q' hb).2⟩
end
end AL
set_option Elab.async false
set_option linter.all false
set_option maxRecDepth 100000
set_option maxHeartbeats 4000000
namespace AL
open PySem PySem.Spec PyProof.Rows L2
open GxR (TabB TabG Tabbed inv_tab sh_eta)
section
variable {X : Cx} {a : Addr} {g0 : Nat} {d : Bool} {FinT FinF : Shared → Prop} {QT QF : Hp → Prop} {ce : Env} {fp : List Addr} {A : Around} {go : Obj}

theorem seg_start1 {P : Program} {w : World} {R : GenEnd} {Y : Protocol} {n : Nat} {s₀ s : Shared} {elt tg iter : Expr} {c0 : Comprehension} {scope : Scope} {pos : Pos} {it : Addr} {K : PySem.W.Frag} {J : It} {tn : Nat → Heap → Prop} {fs : List Frame} (T : Turn P w K tg J fp it tn) (st : tn 0 s.heap)
    (h : Seg (model P w) A R Y n s₀ (.compLoop (.GeneratorExp elt [c0, ⟨tg, iter, [], 0⟩] scope pos) 1 (.ref it) .none ce) ((model P w).den (.compLoop (.GeneratorExp elt [c0, ⟨tg, iter, [], 0⟩] scope pos) 1 (.ref it) .none ce)) fs s) :
    Seg (model P w) A R Y n s₀ (.compStart (.GeneratorExp elt [c0, ⟨tg, iter, [], 0⟩] scope pos) 1 (.ref it) .none ce) ((model P w).den (.compStart (.GeneratorExp elt [c0, ⟨tg, iter, [], 0⟩] scope pos) 1 (.ref it) .none ce)) fs s := by
  show Seg _ A _ _ _ s₀ _ ((compStart (.GeneratorExp elt [c0, ⟨tg, iter, [], 0⟩] scope pos) 1 (.ref it) .none ce).onRaise (fun x => do noteFrame x ce; standAt theWindowsPlace)) fs s
  unfold compStart
  rw [Sem.onRaise_eq_wrap]
  show Seg _ A _ _ _ s₀ _ ((ask >>= _).wrap _ _ _ _) fs s
  refine seg_bind_wrap (wpAny_askSetting ?_)
  split
  · exact seg_again rfl h
  · refine seg_bind_wrap (wpAny_rule ?_)
    show Seg _ A _ _ _ s₀ _ ((standAt iter.pos >>= _).wrap _ _ _ _) fs s
    exact seg_bind_wrap (wpAny_standAt (seg_bind_wrap (T.self _ 0 s _ _ st (seg_again rfl h))))

theorem seg_outer {elt tg iter tg1 iter1 : Expr} {scope : Scope} {pos : Pos} {it : Addr} {tn : Nat → Heap → Prop} {J : It} {g g1 : TG} {wi1 : TI} {te : TE} {σ0 : L2.St} {vs0 vs1 : List Nat} {W : Nat → Nat → Hp → Prop}
    (hgo : ∀ h : Heap, h.get? a = some go → h.IsGen a g0)
    (hXA : A.over (gcode elt [⟨tg, iter, [], 0⟩, ⟨tg1, iter1, [], 0⟩] scope pos it ce) [] = X.A) (hco : ce.scope.isCoroutine = false)
    (henv : X.env = ce) (hcalm : X.calm = true) (hxe : ∀ e s, ¬ X.xe e s) (hpn : (a, go) ∈ X.pn)
    (hpn2 : ∀ p ∈ X.pn, ∀ b ∈ fp, p.1 ≠ b) (hex : ∀ b ∈ fp, b ∈ X.ex)
    (T : Turn X.prog X.w X.K tg J fp it tn)
    (hg : PG X tg g) (hi1 : PI X tg1 iter1 wi1) (hs1 : ∀ v, foldedSetIterable iter1 ce v = pure v) (hg1 : PG X tg1 g1) (he : PE X elt te) (w2 : W2 X.K J g wi1 g1 te σ0 vs0 vs1 d QT QF W)
    (hT : ∀ H s, Inv X [] σ0 H s → QT H → FinT s) (hF : ∀ H s, Inv X [] σ0 H s → QF H → FinF s) :
    ∀ (m n i : Nat) (s₀ s : Shared) (H : Hp), m < n → W i m H → Inv X [] σ0 H s → tn i s.heap → (∀ b ∈ fp, H b = none) →
      Seg (model X.prog X.w) A (GRA FinT) (GYA a g0 d FinF) n s₀ (gcode elt [⟨tg, iter, [], 0⟩, ⟨tg1, iter1, [], 0⟩] scope pos it ce)
        ((model X.prog X.w).den (gcode elt [⟨tg, iter, [], 0⟩, ⟨tg1, iter1, [], 0⟩] scope pos it ce)) [] s := by
  have stat : ∀ {σ' : L2.St} {H' : Hp} {s' : Shared}, Inv X [] σ' H' s' → (∀ b ∈ fp, H' b = none) → ∀ b ∈ fp, FpOk X [] H' b := fun {σ' H' s'} I' hn b hb =>
    ⟨hn b hb, (I'.ok.exf b (hex b hb)).1, I'.ok.exfs b (hex b hb), .inl (hex b hb), fun x c e => (I'.ok.exf b (hex b hb)).2 x c e, fun p hp => by
      rcases List.mem_append.mp hp with z | z
      · exact hpn2 p z b hb
      · cases z⟩
  intro m
  induction m using Nat.strongRecOn with
  | _ m ih =>
    intro n i s₀ s H hmn hW I st hfp
    show Seg _ A _ _ _ s₀ _ ((compTurn (.GeneratorExp elt [⟨tg, iter, [], 0⟩, ⟨tg1, iter1, [], 0⟩] scope pos) 0 (.ref it) .none ce).onRaise (leaving ce)) [] s
    rw [ge2_out, Sem.onRaise_eq_wrap]
    refine seg_bind_wrap (wpAny_standAt ?_)
    rcases w2.turn i m H hW with ⟨stop, qt⟩ | ⟨go', step⟩
    · refine seg_bind_wrap ?_
      rw [hXA]
      refine thn (T.done X rfl rfl rfl hcalm i [] s σ0 H _ I (stat I hfp) st stop) fun r s1 ⟨hr, I1⟩ => ?_
      subst hr
      exact seg_end (.ok .next) ⟨rfl, hT H s1 I1 qt⟩
    · refine seg_bind_wrap ?_
      rw [hXA]
      refine thn (T.item X rfl rfl rfl hcalm i [] s σ0 H _ I (stat I hfp) st go') fun r s1 ⟨u, hr, h1⟩ => ?_
      subst hr
      refine seg_bind_wrap ?_
      rw [hXA]
      refine wpAny_mono h1 (fun _ s2 hh => ?_) fun _ _ z => z
      obtain ⟨x, H2, I2, r2, y2, st2, n2⟩ := hh
      have I2' := I2.pinned (stat I2 n2) (T.obj _ _ st2)
      refine seg_bind_wrap ?_
      rw [hXA]
      have hgr := hg.run _ s2 σ0 H2 x u _ I2' r2 (step x H2 y2)
      rw [henv] at hgr
      refine wpAny_mono hgr (fun _ s4 ⟨σ4, H4, I4, hw4, q4⟩ => ?_) fun e s' z => (hxe e s' z).elim
      refine seg_bind_wrap ?_
      rw [hXA]
      have hir := hi1.run _ s4 σ4 H4 _ I4 q4
      rw [henv] at hir
      refine wpAny_mono hir (fun xv s5 hx5 => ?_) fun e s' z => (hxe e s' z).elim
      refine seg_bind_wrap (wpAny_standAt ?_)
      refine seg_bind_wrap (wpAny_of_eq (hs1 xv) ?_)
      refine seg_bind_wrap ?_
      rw [hXA]
      refine wpAny_holding (wpAny_mono hx5 (fun itv s6 h6 => ?_) fun e s' z => (hxe e s' z).elim)
      obtain ⟨it1, fp1, tn1, J1, H6, e, I6, T1, st6, f6, WI, ⟨n1, hn1, w6⟩, wi⟩ := h6
      subst e
      obtain ⟨hl4, hv4⟩ := wipe_back hw4
      have weak0 : ∀ {H' s'}, Inv X ([] ++ pinsAt fp s2.heap) σ4 H' s' → Inv X [] σ0 H' s' := fun {H' s'} J => (J.unpinned (pins := [])).weak hl4.symm fun j v e => hv4 j v e
      refine seg_call fun ppos => ?_
      refine seg_start1 T1 st6 ?_
      refine seg_inner (fp1 := fp1) (m := m) (Nx := fun n' H => W (i + 1) n' H) (pins := [] ++ pinsAt fp s2.heap) hgo ((GenW.over_loop rfl rfl).trans hXA) hco henv hcalm hxe hpn T1 hg1 he wi (fun H s J q => hF H s (weak0 J) q) 0 (fun n' n2 s₀' s' H' h1 h2 nx J => ?_) n1 n 0 s₀ s6 H6 (by omega) hn1 w6 I6 st6 f6
      have pin' : ∀ q ∈ fp, ∀ o, s2.heap.get? q = some o → s'.heap.get? q = some o ∧ H' q = none := fun q hb o e =>
        let z := J.pin (q, o) (List.mem_append_right _ (List.mem_append_right _ (mem_pinsAt hb e)))
        ⟨z.1, z.2.1⟩
      refine seg_again rfl (ih n' h1 n2 (i + 1) s₀' s' H' h2 nx (weak0 J) (T.keep _ _ _ st2 fun q' hb o e => (pin' q' hb o e).1) fun q' hb => ?_)
      obtain ⟨o, e, _⟩ := T.obj _ _ st2 q' hb
      exact (pin' q' hb o e).2
end
end AL
set_option Elab.async false
set_option linter.all false
set_option maxRecDepth 100000
set_option maxHeartbeats 4000000
namespace AL
open PySem PySem.Spec PyProof.Rows L2
open GxR (TabB TabG Tabbed inv_tab sh_eta)
/-- all(e for x in a for y in b) -/
def tQuant2 (K : PySem.W.Frag) (P : Addr) (d : Bool) (wi : TI) (g : TG) (wi1 : TI) (g1 : TG) (te : TE) (vs vs0 vs1 : List Nat) : TE := fun σ H Q => wi σ H fun J H1 => TabG H1 P ∧ ∀ H2, Tabbed P H1 H2 →
  ∃ W : Nat → Nat → Hp → Prop, (∃ m, W 0 m H2) ∧ W2 K J g wi1 g1 te (wipe σ vs) vs0 vs1 d (Q (.bl (!d))) (Q (.bl d)) W
section
variable {X : Cx} {c P : Addr} {elt tg iter tg1 iter1 : Expr} {scope : Scope} {own : List (Str × Nat)} {p pos gpos : Pos} {wi wi1 : TI} {g g1 : TG} {te : TE} {k : Nat} {vs0 vs1 : List Nat}
theorem pe_allG2 (hr : Room (k + 1) X.A) (hc : X.calm = true) (hN : X.N.Nodup) (hgl : Gl X "all") (hm : X.mg "all" = none) (TB : TabB X.base X.mg c P) (hcode : X.env.code = .ref c) (ok : GOk X.N X.env.scope scope own) (hi : PI X tg iter wi)
    (hg : ∀ (s : Shared) (H : Hp) (C : Addr) (cl : List (Str × Addr)) (code : Value) (fp : List Addr) (A : Around) (pn : List (Addr × Obj)), PG (gcx X s H (genEnv scope cl C code builtinsNs X.env) fp A pn) tg g)
    (hi1 : ∀ (s : Shared) (H : Hp) (C : Addr) (cl : List (Str × Addr)) (code : Value) (fp : List Addr) (A : Around) (pn : List (Addr × Obj)), Room k A → PI (gcx X s H (genEnv scope cl C code builtinsNs X.env) fp A pn) tg1 iter1 wi1)
    (hg1 : ∀ (s : Shared) (H : Hp) (C : Addr) (cl : List (Str × Addr)) (code : Value) (fp : List Addr) (A : Around) (pn : List (Addr × Obj)), PG (gcx X s H (genEnv scope cl C code builtinsNs X.env) fp A pn) tg1 g1)
    (he : ∀ (s : Shared) (H : Hp) (C : Addr) (cl : List (Str × Addr)) (code : Value) (fp : List Addr) (A : Around) (pn : List (Addr × Obj)), Room k A → PE (gcx X s H (genEnv scope cl C code builtinsNs X.env) fp A pn) elt te)
    (hs : ∀ v, genFold iter X.env v = pure v := by intro _; rfl) (hs1 : ∀ (C : Addr) (cl : List (Str × Addr)) (code : Value) v, foldedSetIterable iter1 (genEnv scope cl C code builtinsNs X.env) v = pure v := by intro _ _ _ _; rfl) (hb : bootBuiltins "all" = some (.builtin "all") := by decide +kernel)
    (hst : starEach [.GeneratorExp elt [⟨tg, iter, [], 0⟩, ⟨tg1, iter1, [], 0⟩] scope gpos] X.env = (false, eval (.GeneratorExp elt [⟨tg, iter, [], 0⟩, ⟨tg1, iter1, [], 0⟩] scope gpos) X.env) :: starEach [] X.env := by rfl) :
    PE X (.Call (.Name "all" p) [.GeneratorExp elt [⟨tg, iter, [], 0⟩, ⟨tg1, iter1, [], 0⟩] scope gpos] [] pos) (tQuant2 X.K P false wi g wi1 g1 te (own.map (·.2)) vs0 vs1) := by
  refine ⟨fun pins s σ H Q I h => ?_⟩
  refine wpAny_Call_Name_kw (ld_blt I hgl hm hb ?_)
  refine PyProof.Rows.callWith_builtin1 ?_ hst (by rfl)
  rw [hst]
  show wpAny _ _ (spliced ((false, eval (.GeneratorExp elt [⟨tg, iter, [], 0⟩, ⟨tg1, iter1, [], 0⟩] scope gpos) X.env) :: backTo pos (starEach [] X.env))) _ _ s
  refine Calls.spliced_cons (gen_made (own := own) (R := fun J H2 => ∃ W : Nat → Nat → Hp → Prop, (∃ m, W 0 m H2) ∧ W2 X.K J g wi1 g1 te (wipe σ (own.map fun x : Str × Nat => x.2)) vs0 vs1 false (Q (.bl (!false))) (Q (.bl false)) W) (d := false) (Q := Q)
    hr hc hN TB hcode ok hi hs I h (fun it fp tn J H3 s3 code a g0 go hR T hgen afp f3n back => ?_) fun a g0 n s5 hG => ?_)
  · obtain ⟨W, ⟨m, w0⟩, w1⟩ := hR
    refine ⟨m + 1, fun s' I' st' => ?_⟩
    exact seg_outer (X := gcx X s3 H3 (genEnv scope (cloFrom X.env.cells scope.names []) s3.heap.objs.size code builtinsNs X.env) fp (X.A.in1.in1.over (gcode elt [⟨tg, iter, [], 0⟩, ⟨tg1, iter1, [], 0⟩] scope gpos it (genEnv scope (cloFrom X.env.cells scope.names []) s3.heap.objs.size code builtinsNs X.env)) []) [(a, go)])
      (go := go) (QT := Q (.bl (!false))) (QF := Q (.bl false)) hgen rfl ok.co rfl hc (fun _ _ z => z) (List.mem_singleton.mpr rfl) (fun q hq b hb => by rw [List.mem_singleton.mp hq]; exact afp b hb) (fun b hb => hb)
      T (hg _ _ _ _ _ _ _ _) (hi1 _ _ _ _ _ _ _ _ (gcode_room hr)) (hs1 _ _ _) (hg1 _ _ _ _ _ _ _ _) (he _ _ _ _ _ _ _ _ (gcode_room hr)) w1 (fun H s I6 q => ⟨H, back H s I6, q⟩) (fun H s I6 q => ⟨H, back H s I6, q⟩) m (m + 1) 0 s' s' H3 (Nat.lt_succ_self m) w0 I' st' f3n
  refine Calls.spliced_nil ?_
  refine call_all_gen hr.hd hr.depth hG (fun s₁ s' hT hb' ho k' => ?_) (fun s₁ s' hF q => ?_) fun s ⟨H', J, _⟩ => J.bare
  · obtain ⟨H', J, q'⟩ := hT
    exact ⟨.bl true, H', inv_ext J ho hb' k', rfl, q'⟩
  · obtain ⟨H', J, q'⟩ := hF
    exact ⟨.bl false, H', inv_quietly J q, rfl, q'⟩
end
end AL
set_option Elab.async false
set_option linter.all false
set_option maxRecDepth 100000
set_option maxHeartbeats 4000000
namespace AL
open PySem PySem.Spec PyProof.Rows L2
open PySem.Froz (SD sObj tailTx addTx TxOk add_x add_ok)

/-- the payload can be walked -/
def WalkOk (w : World) (D : SD) : Prop := Ris D.2.2.place.toList ∧ (w.params.followText "set-order" = true ∨ D.2.2.led = true)
theorem walk_tail {w : World} {ep : Nat} {es1 : Array (Int × Value)} {t2 : SetTable} {b : Bool} (h1 : Ris t2.place.toList) (h2 : w.params.followText "set-order" = true ∨ t2.led = true) : WalkOk w (tailTx ep es1 t2 b) := by
  unfold tailTx
  split
  · exact ⟨relayAll_ris _ _ _, h2.imp id fun z => by rw [relayAll_led]; exact z⟩
  · exact ⟨h1, h2⟩
theorem walk_add {w : World} {D : SD} (h : Int) (v : Value) (W : WalkOk w D) : WalkOk w (addTx h v D) := by
  obtain ⟨W1, W2⟩ := W
  have r1 := layNew_ris D.2.2 D.1 h v W1
  have r2 : w.params.followText "set-order" = true ∨ (layNew D.2.2 D.1 h v).2.1.led = true := W2.imp id fun z => by rw [layNew_led]; exact z
  unfold addTx
  refine walk_tail ?_ ?_
  · split <;> exact r1
  · split <;> exact r2
/-- a set of texts at S: the texts l, each once -/
def SetS (P : Program) (w : World) (h : Heap) (S : Addr) (l : List Str) : Prop := ∃ D : SD, h.get? S = some (sObj "set" D) ∧ TxOk P w D l ∧ WalkOk w D ∧ l.Nodup
section
variable {P : Program} {w : World} {A : Around} {E : Value → Shared → Prop} {s : Shared}
theorem SetS.at {h h' : Heap} {S : Addr} {l : List Str} (R : SetS P w h S l) (k : ∀ o, h.get? S = some o → h'.get? S = some o) : SetS P w h' S l := by
  obtain ⟨D, a, b⟩ := R
  exact ⟨D, k _ a, b⟩
theorem setS_fresh {h : Heap} {S : Addr} (ho : h.get? S = some { cls := .type "set", dict := none, data := .set #[] 0 (.fresh 0 0 (!w.params.followText "set-order")) }) : SetS P w h S [] := by
  refine ⟨(#[], 0, .fresh 0 0 (!w.params.followText "set-order")), ho, Froz.TxOk.nil (by rfl), ⟨List.Pairwise.nil, ?_⟩, List.nodup_nil⟩
  show _ ∨ (!w.params.followText "set-order") = true
  cases w.params.followText "set-order"
  · exact .inr rfl
  · exact .inl rfl
/-- a text is put into it -/
theorem setS_add {a : Addr} {l : List Str} {k : Str} {u : Tok} {Q : Bool → Shared → Prop} (R : SetS P w s.heap a l) (hb : l.length + 1 < scanBound)
    (h : ∀ h' b, Heap.SameBut a s.heap h' → SetS P w h' a (if k ∈ l then l else k :: l) → Q b { s with heap := h' }) : wpAny (model P w) A (setAddHashed a (.str k u) (hashStr w k)) Q E s := by
  obtain ⟨D, ho, T, W, nd⟩ := R
  by_cases hk : k ∈ l
  · rw [if_pos hk] at h
    have goal := h s.heap false (Heap.SameBut.refl a s.heap) ⟨D, ho, T, W, nd⟩
    obtain ⟨es, ep, t⟩ := D
    have hkey : (strKind P w).is k (.str k u) = true := Froz.is_str k u
    have hsz : es.size = l.length := T.sz
    unfold setAddHashed setAddHashedIn
    refine wpAny_holding (wpAny_bind (wpAny_setState_of ho rfl T.fit ?_))
    dsimp only
    rw [byScan_of (x := Value.str k u) rfl (show es.size < scanBound by have : es.size = l.length := T.sz; omega) T.el]
    simp only [↓reduceIte]
    unfold setAddByScan
    refine wpAny_bind (wpAny_bind (wpAny_rule (wpAny_bind (wpAny_setScan_of (knd := strKind P w) (k := k) hkey ho rfl T.fit T.el ?_))))
    cases hfi : List.findIdx? (fun e => (strKind P w).is k e.2) es.toList with
    | none =>
      obtain ⟨e, he, q⟩ := (T.mem k).mp hk
      have c := List.findIdx?_eq_none_iff.mp hfi e he
      rw [q] at c
      cases c
    | some j =>
      dsimp only
      exact wpAny_pure (wpAny_pure goal)
  · rw [if_neg hk] at h
    refine add_x ho T hk hb (h _ true (Heap.SameBut.update s.heap a _) ⟨_, Froz.get_upd _ ho rfl, add_ok u T, walk_add _ _ W, List.nodup_cons.mpr ⟨hk, nd⟩⟩)
/-- what the loop has taken in -/
def took : List Str → List Str → List Str
  | [], l => l
  | k :: r, l => took r (if k ∈ l then l else k :: l)
theorem took_mem : ∀ (ss l : List Str) (k : Str), k ∈ took ss l ↔ k ∈ ss ∨ k ∈ l
  | [], l, k => by simp [took]
  | x :: r, l, k => by
    unfold took
    rw [took_mem r _ k, List.mem_cons]
    by_cases hx : x ∈ l
    · rw [if_pos hx]
      constructor
      · rintro (h | h)
        · exact .inl (.inr h)
        · exact .inr h
      · rintro ((h | h) | h)
        · exact .inr (h ▸ hx)
        · exact .inl h
        · exact .inr h
    · rw [if_neg hx, List.mem_cons]
      constructor
      · rintro (h | h | h)
        · exact .inl (.inr h)
        · exact .inl (.inl h)
        · exact .inr h
      · rintro ((h | h) | h)
        · exact .inr (.inl h)
        · exact .inl h
        · exact .inr (.inr h)
theorem took_len : ∀ (ss l : List Str), (took ss l).length ≤ ss.length + l.length
  | [], l => by simp [took]
  | x :: r, l => by
    unfold took
    have := took_len r (if x ∈ l then l else x :: l)
    split at this <;> split <;> simp only [List.length_cons] at * <;> first | omega | contradiction
theorem update_loop {I : Addr} {fp wr : List Addr} {G : Array GenState → Array GenState → Prop} {n : Nat} {Pv : Nat → Value → Prop} {St : Nat → Shared → Prop} {R : Result → Shared → Prop}
    (W : WalksS P w A.in1 I fp wr G n Pv St) (S : Addr) (hSf : S ∉ fp) (ss : List Str) (hn : n = ss.length) (hval : ∀ i v, Pv i v → ∃ k t, ss[i]? = some k ∧ v = .str k t) :
    ∀ (k i : Nat) (s : Shared) (l : List Str), n - i = k → i ≤ n → St i s → SetS P w s.heap S l → l.length + k + 1 < scanBound →
      (∀ s', Moved (S :: wr) G s s' → SetS P w s'.heap S (took (ss.drop i) l) → R (.ok (.ret .none)) s') →
      codeAny (model P w) A (.builtin "set.update.loop" ⟨[.ref S, .ref I], []⟩) R s := by
  have hSw : S ∉ wr := fun h => hSf (W.sub _ h)
  have hsub : ∀ b ∈ wr, b ∈ S :: wr := fun b hb => List.mem_cons_of_mem _ hb
  intro k
  induction k with
  | zero =>
    intro i s l hk hi hst hS _ hR
    obtain rfl : i = n := by omega
    refine codeAny_builtin F.entry_set_update_loop ?_
    rw [Around.under_plainId F.plain_set_update_loop _]
    show wpAny _ A.in1 (pyNext (.ref I) >>= _) _ _ s
    refine wpAny_bind (W.done s _ _ hst fun s' hm => wpAny_pure (hR s' (hm.mono hsub) ?_))
    rw [List.drop_of_length_le (by omega)]
    exact hS.at fun o e => hm.heap S o hSw e
  | succ k ih =>
    intro i s l hk hi hst hS hb hR
    have hlt : i < n := by omega
    refine codeAny_builtin F.entry_set_update_loop ?_
    rw [Around.under_plainId F.plain_set_update_loop _]
    show wpAny _ A.in1 (pyNext (.ref I) >>= _) _ _ s
    refine wpAny_bind (W.item i s _ _ hlt hst fun v s' hP hst' hm => ?_)
    obtain ⟨z, t, hz, rfl⟩ := hval i v hP
    have hS' : SetS P w s'.heap S l := hS.at fun o e => hm.heap S o hSw e
    show wpAny _ A.in1 (holding [Value.str z t] (setAdd S (.str z t)) >>= _) _ _ s'
    refine wpAny_bind (wpAny_holding ?_)
    unfold setAdd
    refine wpAny_holding (wpAny_bind ((strKind P w).pyHash (k := z) (Froz.is_str z t) ?_))
    refine setS_add (s := { s' with toks := s'.toks + 1 }) hS' (by omega) fun h' b hsb hS2 => ?_
    have hd : ss.drop i = z :: ss.drop (i + 1) := by
      obtain ⟨h1, h2⟩ := List.getElem?_eq_some_iff.mp hz
      rw [List.drop_eq_getElem_cons h1, h2]
    refine wpAny_pure ⟨plainId_quiet F.plain_set_update_loop _, ih (i + 1) _ _ (by omega) hlt (W.frame _ s' _ _ hst' (Nat.le_succ _) fun b hb o e => ?_) hS2 ?_ fun s'' hm'' hS'' => ?_⟩
    · rw [hsb.2 b (fun h : b = S => hSf (by rw [← h]; exact hb))]; exact e
    · split <;> (try simp only [List.length_cons]) <;> omega
    · refine hR s'' (Moved.trans W.gtrans ((hm.mono hsub).then_heap (Nat.le_succ _) fun b o hb e => ?_) hm'') ?_
      · rw [hsb.2 b (fun h : b = S => hb (by rw [h]; exact List.mem_cons_self))]; exact e
      · rw [hd]
        exact hS''
end
end AL
set_option Elab.async false
set_option linter.all false
set_option maxRecDepth 100000
set_option maxHeartbeats 4000000
namespace AL
open PySem PySem.Spec PyProof.Rows L2
open PySem.Froz (SD sObj tailTx addTx TxOk add_x add_ok)
section
variable {P : Program} {w : World} {A : Around} {E : Value → Shared → Prop} {s : Shared}
abbrev setObj0 (w : World) : Obj := { cls := .type "set", dict := none, data := .set #[] 0 (.fresh 0 0 (!w.params.followText "set-order")) }
theorem call_setS {l : Addr} {items : Array Value} {ss : List Str} {Q : Value → Shared → Prop} (hh : A.handled = none) (hl : s.heap.IsList l items) (hit : StrsAre items.toList ss) (hb : ss.length + 1 < scanBound)
    (h : ∀ (h' : Heap) (tk : Nat), SetS P w h' s.heap.objs.size (took ss []) → (∀ b o, s.heap.get? b = some o → h'.get? b = some o) → Q (.ref s.heap.objs.size) { s with heap := h', toks := tk }) :
    wpAny (model P w) A (call (.type "set") [.ref l]) Q E s := by
  have hisz : items.size = ss.length := by
    have q := StrsAre.length hit
    rw [Array.length_toList] at q
    exact q
  have hval : ∀ (i : Nat) (v : Value), items[i]? = some v → ∃ k t, ss[i]? = some k ∧ v = .str k t := fun i v hv => by
    have hi : i < ss.length := by rw [← hisz]; exact (Array.getElem?_eq_some_iff.mp hv).1
    obtain ⟨t, e⟩ := SS.strs_at hit i v (by rw [Array.getElem?_toList]; exact hv)
    refine ⟨ss[i], t, List.getElem?_eq_getElem hi, ?_⟩
    rw [e, List.getD_eq_getElem?_getD, List.getElem?_eq_getElem hi] <;> rfl
  obtain ⟨c, tl, hmro⟩ := F.called_set.mro
  have hmade := F.called_set.made
  have hsub := F.called_set.sub
  refine wpAny_call (codeAny_of_tree ?_)
  show wpAny _ _ (callAny (.type "set") _) _ _ _
  refine wpAny_pure ⟨Code.quiet_builtin _ (by decide +kernel), codeAny_builtin F.entry_type_call ?_⟩
  rw [Around.under_plain (weight_type_call_type "set" [.ref l] []) rfl]
  have h1 := F.called_set.notType
  have h2 := F.called_set.canCreate
  have hct := F.typeCall_set_1 (.ref l)
  repeat (any_goals (first | assumption | wp_step))
  refine codeAny_mono (code_set_led1 (.ref l) (E := E) (Q₁ := fun obj s₁ => obj = .ref s.heap.objs.size ∧ s₁ = { s with heap := s.heap.push (setObj0 w) }) ⟨rfl, rfl⟩) fun r s₁ hr => ?_
  cases r with
  | error e => exact hr
  | ok fl =>
    cases fl with
    | ret obj =>
      obtain ⟨rfl, rfl⟩ := hr
      have hS : (s.heap.push (setObj0 w)).get? s.heap.objs.size = some (setObj0 w) := Heap.get?_push_size _ rfl
      have hT : Shared.TypeIs { s with heap := s.heap.push (setObj0 w) } (.ref s.heap.objs.size) "set" := ⟨_, hS, rfl⟩
      have hli := F.called_set.init.lookup
      have hbi := F.called_set.init.bind (.ref s.heap.objs.size)
      repeat (any_goals (first | assumption | wp_step))
      refine codeAny_mono (codeAny_call_builtin (R := wants (fun r s₂ => r = .none ∧ ∃ h' tk, s₂ = { s with heap := h', toks := tk } ∧ SetS P w h' s.heap.objs.size (took ss []) ∧
          (∀ b o, s.heap.get? b = some o → h'.get? b = some o)) E) F.called_set.init.plain F.entry_set_init (check_set_init_1 hT ?_)) fun r₂ s₂ hr₂ => ?_
      · obtain ⟨ol, hol, hcl, nl, hdl⟩ := hl
        obtain ⟨ocls, odict, odata, oslots⟩ := ol
        simp only at hcl hdl
        subst hcl; subst hdl
        have hol' : (s.heap.push (setObj0 w)).get? l = some { cls := .type "list", dict := odict, data := .seq items nl, slots := oslots } := Heap.get?_push_of_some _ hol
        have hsls := F.sub_list_set
        have hslf := F.sub_list_frozenset
        have hne : (Value.type "list" == Value.type "dict") = false := by decide
        have hl1 : (s.heap.push (setObj0 w)).IsList l items := ⟨_, hol', rfl, nl, rfl⟩
        unfold Builtin.«set.__init__» noKeywords Builtin.Frozenset.updateFrom
        generalize hPI : pyIter = PI
        wp_walk
        subst hPI
        refine wpAny_pyIter_list hl1 ?_
        refine wpAny_bind (wpAny_runValue ?_)
        have hlS : l < s.heap.objs.size := Heap.lt_size hol
        have hh3 : A.in1.in1.in1.handled = none := by simp [hh]
        have hneI : l ≠ (s.heap.push (setObj0 w)).objs.size := by
          rw [Heap.size_push]; exact Nat.ne_of_lt (Nat.lt_succ_of_lt hlS)
        have hSf : s.heap.objs.size ∉ [(s.heap.push (setObj0 w)).objs.size, l] := by
          rw [Heap.size_push]; simp only [List.mem_cons, List.mem_singleton, List.not_mem_nil, or_false, not_or]
          exact ⟨Nat.ne_of_lt (Nat.lt_succ_self _), Nat.ne_of_gt hlS⟩
        refine update_loop ((Walks.list hh3 _ l hneI items).toS) s.heap.objs.size
          hSf ss hisz hval (items.size - 0) 0 _ [] (by omega) (Nat.zero_le _)
          ⟨⟨_, Heap.get?_push_size _ rfl, rfl, rfl⟩, (hl1.push _)⟩ (setS_fresh (Heap.get?_push_of_some _ hS)) (by rw [hisz]; simp only [List.length_nil]; omega) fun s' hm hS' => ?_
        obtain ⟨h', g2, d', tk', os'⟩ := s'
        have eg : g2 = s.gens := hm.gens
        have ed : d' = s.drawn := hm.drawn
        have eo : os' = s.os := hm.os
        subst eg; subst ed; subst eo
        show wpAny _ _ _ _ _ _
        refine wpAny_pure ?_
        show wpAny _ _ (ret Value.none) _ _ _
        refine wpAny_pure ⟨rfl, h', tk', rfl, hS', fun b o e => ?_⟩
        have hb0 : b < s.heap.objs.size := Heap.lt_size e
        have hb2 : b ≠ (s.heap.push (setObj0 w)).objs.size := by
          rw [Heap.size_push]; exact Nat.ne_of_lt (Nat.lt_succ_of_lt hb0)
        exact hm.heap b o (by simp only [List.mem_cons, List.mem_singleton, List.not_mem_nil, or_false, not_or]; exact ⟨Nat.ne_of_lt hb0, hb2⟩) (Heap.get?_push_of_some _ (Heap.get?_push_of_some _ e))
      · cases r₂ with
        | error e => exact hr₂
        | ok fl₂ =>
          cases fl₂ with
          | ret r =>
            obtain ⟨rfl, h', tk, rfl, hS', hk'⟩ := hr₂
            repeat (any_goals (first | assumption | wp_step))
            exact h _ _ hS' hk'
          | _ => exact hr₂.elim
    | _ => exact hr.elim
end
end AL
set_option Elab.async false
set_option linter.all false
set_option maxRecDepth 100000
set_option maxHeartbeats 4000000
namespace AL
open PySem PySem.Spec PyProof.Rows L2
open PySem.Froz (SD sObj tailTx addTx TxOk add_x add_ok)
/-- a list without doubles, within another of no more items: the same items -/
theorem perm_of_sub : ∀ (l m : List Str), l.Nodup → (∀ k ∈ l, k ∈ m) → m.length ≤ l.length → l.Perm m
  | [], m, _, _, h => by
    have : m = [] := List.length_eq_zero_iff.mp (by simpa using h)
    rw [this]
  | x :: l, m, nd, hs, h => by
    have hx : x ∈ m := hs x List.mem_cons_self
    have hp : m.Perm (x :: m.erase x) := List.perm_cons_erase hx
    have hnd := List.nodup_cons.mp nd
    refine List.Perm.trans (List.Perm.cons x (perm_of_sub l (m.erase x) hnd.2 (fun k hk => ?_) ?_)) hp.symm
    · have hk' := hp.mem_iff.mp (hs k (List.mem_cons_of_mem _ hk))
      rcases List.mem_cons.mp hk' with e | e
      · exact absurd (e ▸ hk) hnd.1
      · exact e
    · have := hp.length_eq
      simp only [List.length_cons] at this h
      omega
section
variable {P : Program} {w : World} {A : Around} {E : Value → Shared → Prop} {s : Shared}
theorem sorted_setS {a : Addr} {l : List Str} {Q : Value → Shared → Prop} (R : SetS P w s.heap a l) (hh : A.handled = none) (h64 : l.length < 64)
    (hQ : ∀ s' p (out : Array Value) (c : Nat) (ys : List Str), (∀ b o, s.heap.get? b = some o → s'.heap.get? b = some o) → s'.gens = s.gens → s'.os = s.os → s.heap.objs.size ≤ p →
      s'.heap.get? p = some (seqObj "list" out c) → StrsAre out.toList ys → ys.Perm l → sortedS ys = true → Q (.ref p) s') :
    wpAny (model P w) A (call (.builtin "sorted") [.ref a]) Q E s := by
  obtain ⟨⟨es, ep, t⟩, ho, T, ⟨W1, W2⟩, nd⟩ := R
  have hsz : es.size = l.length := T.sz
  have hb : es.size < scanBound := by unfold scanBound; omega
  refine Calls.call_function_entry kind_sorted plain_sorted entry_sorted (args_sorted1 _) ?_
  unfold Builtin.«sorted»
  refine wpAny_bind (m := checkCount "sorted" 1 1 _) (wpAny_pure ?_)
  refine wpAny_bind (collect_set (A := A.in1) hh ⟨_, ho, rfl, rfl⟩ T.fit hb W1 W2 fun s1 vs k1 hz g1 o1 pm => ?_)
  have hvl : vs.length = l.length := by rw [pm.length_eq, List.length_map, Array.length_toList]; exact hsz
  have hstr : ∀ v ∈ vs, ∃ x t, v = Value.str x t := fun v hv => by
    obtain ⟨e, he, q⟩ := List.mem_map.mp (pm.mem_iff.mp hv)
    obtain ⟨⟨k, hk, _⟩, _⟩ := T.el e he
    obtain ⟨tk, z⟩ := Value.isStrOf_shape (x := k) (v := e.2) hk
    exact ⟨k, tk, by rw [← q]; exact z⟩
  have hS : StrsAre vs (vs.map strOf) := strsAre_map vs hstr
  have hperm : l.Perm (vs.map strOf) := by
    refine perm_of_sub l _ nd (fun k hk => ?_) (by rw [List.length_map, hvl]; exact Nat.le_refl _)
    obtain ⟨e, he, q⟩ := (T.mem k).mp hk
    obtain ⟨tk, z⟩ := Value.isStrOf_shape (x := k) (v := e.2) q
    refine List.mem_map.mpr ⟨e.2, pm.mem_iff.mpr (List.mem_map.mpr ⟨e, he, rfl⟩), ?_⟩
    rw [z] <;> rfl
  refine wpAny_bind (wpAny_newList ?_ (by rw [hvl, sizeLine_eq]; omega))
  have hoL : (s1.heap.push (seqObj "list" vs.toArray 0)).get? s1.heap.objs.size = some (seqObj "list" vs.toArray 0) := Heap.get?_push_size _ rfl
  refine wpAny_bind (wpAny_holding (wpAny_call_entry slot_list_sort ⟨_, hoL, rfl⟩ entry_list_sort
    (list_sort_treeK strKind_oneLt hoL hS.keysOf (fun v₁ v₂ rest e => keyKind_strs (by rw [← e]; exact hS)) (by rw [hvl]; exact h64) fun st' hp hs => ⟨_, rfl, ?_⟩) (args_list_sort _)))
  obtain ⟨ys, g3, g4, g5⟩ := sorted_out_str hS hp hs
  obtain ⟨c, hc⟩ := sortedHeap_at (vs := vs) (out := (arrOf st').map (·.2)) hoL
  refine wpAny_pure ⟨_, rfl, hQ _ s1.heap.objs.size _ c ys (fun b u e => ?_) g1 o1 hz hc g3 (g4.trans hperm.symm) g5⟩
  have q := k1 b u e
  have hlt := Heap.lt_size q
  show (sortedHeap (s1.heap.push (seqObj "list" vs.toArray 0)) s1.heap.objs.size vs _).get? b = some u
  rw [sortedHeap_old (Nat.ne_of_lt hlt) (by rw [size_push']; exact Nat.lt_succ_of_lt hlt)]
  exact Heap.get?_push_of_some _ q
end
section
variable {X : Cx}
/-- sorted(set(e)), e a list of texts, fewer than 64: each once, in order -/
def tSortSet (K : PySem.W.Frag) (ta : TE) : TE := fun σ H Q => ta σ H fun x H1 => ∃ (l : Addr) (xs : List Str), x = .ref l ∧ SqL K H1 l (xs.map V.str) ∧ xs.length < 64 ∧
  ∀ (ys : List Str) (p : Addr), sortedS ys = true → ys.Nodup → (∀ k, k ∈ ys ↔ k ∈ xs) → H1 p = none → Q (.ref p) (upd H1 p (.lst (ys.map V.str)))
theorem pe_sortSet {a : Expr} {ta : TE} {p p2 q pos : Pos} (hc : X.calm = true) (hg : Gl X "sorted") (hm : X.mg "sorted" = none) (hg2 : Gl X "set") (hm2 : X.mg "set" = none) (ha : PE X a ta)
    (hb : bootBuiltins "sorted" = some (.builtin "sorted") := by decide +kernel) (hb2 : bootBuiltins "set" = some (.type "set") := by decide +kernel)
    (he : starEach [.Call (.Name "set" p2) [a] [] q] X.env = (false, eval (.Call (.Name "set" p2) [a] [] q) X.env) :: starEach [] X.env := by rfl)
    (he2 : starEach [a] X.env = (false, eval a X.env) :: starEach [] X.env := by rfl) :
    PE X (.Call (.Name "sorted" p) [.Call (.Name "set" p2) [a] [] q] [] pos) (tSortSet X.K ta) := by
  refine ⟨fun pins s σ H Q I h => ?_⟩
  refine wpAny_Call_Name_kw (ld_blt I hg hm hb ?_)
  refine PyProof.Rows.callWith_builtin1 ?_ he (by rfl)
  rw [he]
  show wpAny _ _ (spliced ((false, eval (.Call (.Name "set" p2) [a] [] q) X.env) :: backTo pos (starEach [] X.env))) _ _ s
  refine Calls.spliced_cons ?_
  refine wpAny_Call_Name_kw (ld_blt I hg2 hm2 hb2 ?_)
  refine PyProof.Rows.callWith_type1 ?_ he2 (by rfl)
  rw [he2]
  show wpAny _ _ (spliced ((false, eval a X.env) :: backTo q (starEach [] X.env))) _ _ s
  refine Calls.spliced_cons (thn (ha.run pins s σ H _ I h) fun u s1 ⟨x, H1, I1, r1, l, xs, ex, hs, h64, q1⟩ => Calls.spliced_nil ?_)
  subst ex
  obtain rfl : u = Value.ref l := r1
  obtain ⟨its, rv, hl, _⟩ := I1.list hs
  have hlen : its.length = xs.length := by
    have z := rv.length
    rw [List.length_map] at z
    exact z.symm
  have hh := I1.ok.hd hc
  refine call_setS hh hl.isList (rv.strs) (by unfold scanBound; omega) fun h' tk R k => ?_
  have I2 : Inv X pins σ H1 { s1 with heap := h', toks := tk } := I1.kept k
  refine Calls.spliced_nil ?_
  have hR64 : (took xs []).length < 64 := by
    have := took_len xs []
    simp only [List.length_nil] at this
    omega
  refine sorted_setS (s := { s1 with heap := h', toks := tk }) R hh hR64 fun s' p out c ys k2 g o hp hg3 hi hperm hsort => ?_
  have hlen2 : (ys.map V.str).length ≤ sizeLine := by rw [List.length_map, hperm.length_eq]; exact small64 hR64
  have hn : H1 p = none := I2.hok.fresh hp
  have J : Inv X pins σ (upd H1 p (.lst (ys.map V.str))) { ({ s1 with heap := h', toks := tk } : Shared) with heap := s'.heap, gens := s'.gens, drawn := s'.drawn, toks := s'.toks } :=
    I2.call (ch := []) (Un.laid k2 hp hn) (I2.hok.laid k2 hp ⟨hlen2, out.toList, c, vals_of_strs hi, hg3⟩) (by rw [g]; exact I2.bare) (fun _ z => nomatch z)
  have e : s' = { ({ s1 with heap := h', toks := tk } : Shared) with heap := s'.heap, gens := s'.gens, drawn := s'.drawn, toks := s'.toks } := by
    cases s'
    cases s1
    cases o
    rfl
  rw [e]
  refine ⟨.ref p, _, J, rfl, q1 ys p hsort (hperm.nodup_iff.mpr ?_) (fun k => ?_) hn⟩
  · obtain ⟨_, _, _, _, nd⟩ := R
    exact nd
  · rw [hperm.mem_iff, took_mem]
    simp
end
end AL
set_option Elab.async false
set_option linter.all false
set_option maxRecDepth 100000
set_option maxHeartbeats 4000000
namespace AL
open PySem PySem.Spec PyProof.Rows L2

/-! ### the order of texts -/
def sLt (a b : Str) : Prop := a.cps.toList < b.cps.toList
instance (a b : Str) : Decidable (sLt a b) := inferInstanceAs (Decidable (a.cps.toList < b.cps.toList))
theorem sLt_trans' {a b c : Str} (h1 : ¬ sLt b a) (h2 : ¬ sLt c b) : ¬ sLt c a := List.le_trans (show a.cps.toList ≤ b.cps.toList from h1) h2
theorem str_ext {a b : Str} (h : a.cps.toList = b.cps.toList) : a = b := by
  cases a; cases b
  congr 1
  exact Array.toList_inj.mp h
theorem sLt_tri {a b : Str} (h1 : ¬ sLt b a) (h2 : ¬ sLt a b) : a = b := str_ext (List.le_antisymm (show a.cps.toList ≤ b.cps.toList from h1) h2)
theorem sLt_irrefl (a : Str) : ¬ sLt a a := List.lt_irrefl _
theorem sLt_asymm {a b : Str} (h : sLt a b) : ¬ sLt b a := fun h2 => by
  have := List.lt_trans (show a.cps.toList < b.cps.toList from h) h2
  exact List.lt_irrefl _ this
theorem sLt_tr {a b c : Str} (h : sLt a b) (h2 : sLt b c) : sLt a c := List.lt_trans (show a.cps.toList < b.cps.toList from h) h2

/-! ### min(d), the keys texts -/
theorem argBest_str (f : Nat → Str) : ∀ k, argBest (fun i j => decide (sLt (f i) (f j))) k ≤ k ∧ ∀ j, j ≤ k → ¬ sLt (f j) (f (argBest (fun i j => decide (sLt (f i) (f j))) k))
  | 0 => ⟨Nat.le_refl _, fun j hj => by
    have : j = 0 := by omega
    subst this
    exact sLt_irrefl _⟩
  | k + 1 => by
    obtain ⟨h1, h2⟩ := argBest_str f k
    simp only [argBest]
    by_cases hc : sLt (f (k + 1)) (f (argBest (fun i j => decide (sLt (f i) (f j))) k))
    · rw [if_pos (by simpa using hc)]
      refine ⟨Nat.le_refl _, fun j hj => ?_⟩
      rcases Nat.lt_or_ge j (k + 1) with hlt | hge
      · exact fun z => h2 j (by omega) (sLt_tr z hc)
      · have : j = k + 1 := by omega
        subst this
        exact sLt_irrefl _
    · rw [if_neg (by simpa using hc)]
      refine ⟨by omega, fun j hj => ?_⟩
      rcases Nat.lt_or_ge j (k + 1) with hlt | hge
      · exact h2 j (by omega)
      · have : j = k + 1 := by omega
        subst this
        exact hc
theorem cmp_strs {prog : Program} {w : World} {A : Around} {P : Nat → Value → Prop} (val : Nat → Str) (hval : ∀ i v, P i v → ∃ t, v = .str (val i) t) : CmpOf prog w A .Lt P (fun i j => decide (sLt (val i) (val j))) := fun i j vi vj s Q E hi hj h => by
  obtain ⟨t, rfl⟩ := hval i vi hi
  obtain ⟨u, rfl⟩ := hval j vj hj
  exact PySem.P.lt_str h
section
variable {X : Cx}
/-- min(d), d a dict whose keys are texts, one at least -/
theorem call_minD (hc : X.calm = true) : CallR X (.builtin "min") (fun xs H Q => ∃ (a : Addr) (kvs : List (Key × V)) (ks : List Str), xs = [.ref a] ∧ Rd H a (.dK kvs) ∧ kvs.map (·.1) = ks.map Sum.inr ∧ ks ≠ [] ∧ ∀ m, m ∈ ks → (∀ k ∈ ks, ¬ sLt k m) → Q (.str m) H) := by
  intro pins s σ H xs us Q I r h
  obtain ⟨a, kvs, ks, rfl, ha, hks, hne, q⟩ := h
  rw [Vals.ref1 r]
  obtain ⟨_, hsys, vs, rel, dof⟩ := dk_rd I.hok ha
  obtain ⟨ep, dat⟩ := dof.dictAt
  have dat' := dat
  obtain ⟨ob, es, ho, ex, hdat, hko, hpr, hnd⟩ := dat'
  have hlv : vs.length = ks.length := by
    have e1 := congrArg List.length hks
    rw [List.length_map, List.length_map] at e1
    rw [← e1]
    exact (KV.length rel).symm
  have hlen : 0 < vs.length := by
    rw [hlv]
    exact List.length_pos_iff.mpr hne
  have keyAt : ∀ (i : Nat) (k : Key) (v : Value), vs[i]? = some (k, v) → ∃ x : Str, ks[i]? = some x ∧ k = .inr x := fun i k v hk => by
    obtain ⟨x, h1, h2⟩ := KV.at' rel hk
    have e1 : (kvs.map (·.1))[i]? = some k := by rw [List.getElem?_map, h1] <;> rfl
    rw [hks, List.getElem?_map] at e1
    obtain ⟨j, hj, e2⟩ := Option.map_eq_some_iff.mp e1
    exact ⟨j, hj, e2.symm⟩
  have hval : ∀ (i : Nat) (v : Value), (∃ k x, vs[i]? = some (k, x) ∧ (mixKind X.prog X.w).is k v = true) → ∃ t, v = Value.str (ks.getD i Str.empty) t := fun i v ⟨k, x, hk, hv⟩ => by
    obtain ⟨z, hz, rfl⟩ := keyAt i k x hk
    obtain ⟨t, e⟩ := Value.isStrOf_shape (x := z) (v := v) hv
    refine ⟨t, ?_⟩
    rw [e, List.getD_eq_getElem?_getD, hz] <;> rfl
  have hlt : a < s.heap.objs.size := Heap.lt_size ho
  refine call_min_walk (wpAny_pyIter_dict hsys dat ?_)
  refine ⟨_, _, _, _, _, _, _, rfl, Walks.dictKeys (knd := mixKind X.prog X.w) (A := X.A.in1) (I.ok.hd hc) s.heap.objs.size a (Nat.ne_of_lt hlt) vs ep,
    ⟨⟨_, Heap.get?_push_size _ rfl, rfl, rfl⟩, dat.keep fun b u e => Heap.get?_push_of_some _ e⟩, fun b hb => ?_, hlen, cmp_strs (fun i => ks.getD i Str.empty) hval, fun v h' tk hP hk => ?_⟩
  · show b < (s.heap.push _).objs.size
    rw [Heap.size_push]
    rcases List.mem_cons.mp hb with e | hb
    · rw [e]
      exact Nat.lt_succ_self _
    · have e : b = a := List.mem_singleton.mp hb
      rw [e]
      exact Nat.lt_succ_of_lt hlt
  · obtain ⟨t, rfl⟩ := hval _ v hP
    obtain ⟨b1, b2⟩ := argBest_str (fun i => ks.getD i Str.empty) (vs.length - 1)
    refine ⟨.str _, H, I.kept (t' := tk) fun b u e => hk b u (fun hmem => ?_) (Heap.get?_push_of_some _ e), ⟨t, rfl⟩, q _ ?_ fun j hj => ?_⟩
    · have e1 : b = s.heap.objs.size := List.mem_singleton.mp hmem
      have e2 := Heap.lt_size e
      rw [e1] at e2
      exact absurd e2 (Nat.lt_irrefl _)
    · have hb : argBest (fun i j => decide (sLt (ks.getD i Str.empty) (ks.getD j Str.empty))) (vs.length - 1) < ks.length := by omega
      rw [List.getD_eq_getElem?_getD, List.getElem?_eq_getElem hb]
      exact List.getElem_mem hb
    · obtain ⟨i, hi, e⟩ := List.mem_iff_getElem.mp hj
      have e2 : ks.getD i Str.empty = j := by rw [List.getD_eq_getElem?_getD, List.getElem?_eq_getElem hi, ← e] <;> rfl
      rw [← e2]
      exact b2 i (by omega)

/-! ### a ** b of a great base -/
theorem op_powW : OpR X (binaryOp .Pow) (rI (fun i j => 0 ≤ j ∧ ((Builtin.Int.intBits i : Nat) : Int) * j ≤ 2 ^ 27) fun i j => .int (i ^ j.toNat)) := opI fun _ _ _ _ _ _ _ hc q => PyProof.Rows.pow_int hc.1 hc.2 q

/-! ### xs.count(t), xs a list of texts -/
theorem strEq_cps (a b : Str) : (a.cps.toList == b.cps.toList) = (a == b) := by
  by_cases h : a = b
  · subst h
    rw [beq_self_eq_true, beq_self_eq_true]
  · have h2 : ¬ a.cps.toList = b.cps.toList := fun z => h (str_ext z)
    rw [beq_eq_false_iff_ne.mpr h, beq_eq_false_iff_ne.mpr h2]
def eqS (k : Str) (v : Value) : Bool := match v with
  | .str n _ => n == k
  | _ => false
theorem eqS_gives {k : Str} {t : Tok} : ∀ {us : List Value} {ns : List Str}, StrsAre us ns → ∀ y ∈ us, MeetsSeq.EqGives y (.str k t) (eqS k y)
  | _, _, .nil => fun y hy => by cases hy
  | _, _, .cons n t' h => fun y hy => by
    rcases List.mem_cons.mp hy with e | e
    · rw [e]
      have q := SeqRoads2.EqGives.str n k t' t
      rw [strEq_cps] at q
      exact q
    · exact eqS_gives h y e
theorem eqS_count {k : Str} : ∀ {us : List Value} {ns : List Str}, StrsAre us ns → us.countP (eqS k) = ns.count k
  | _, _, .nil => rfl
  | _, _, .cons n t' h => by
    rw [List.countP_cons, List.count_cons, eqS_count h]
    rfl
theorem mt_countS : MtR X "list.count" (fun x xs H Q => ∃ (p : Addr) (ns : List Str) (k : Str), x = .ref p ∧ xs = [.str k] ∧ SqL X.K H p (ns.map V.str) ∧ Q (.int (ns.count k : Nat)) H) := by
  intro pins s σ H x xs v us Q I rx rxs h
  obtain ⟨p, ns, k, rfl, rfl, hs, q⟩ := h
  cases rx
  obtain ⟨u, rfl, ru⟩ := rxs.one
  obtain ⟨t, rfl⟩ := ru
  obtain ⟨its, rv, ⟨⟨cls, dd, data, sl⟩, n, ho, hc, hdn, hd⟩, hlen⟩ := I.list hs
  simp only at hc hd
  subst hc hd
  have hi := rv.strs
  refine call_meets PySem.F.slot_list_count ⟨_, ho, rfl⟩ PySem.F.entry_list_count (PySem.F.args_list_count_2 _ _)
    (SeqAt.list_countAt p its.toArray n dd sl (.str k t) (eqS k)) ⟨ho, fun y hy => (eqS_gives hi y (by simpa using hy)).at _ _, ?_⟩
  have ec : its.toArray.toList.countP (eqS k) = ns.count k := eqS_count hi
  refine ⟨.int (ns.count k : Nat), H, I.tok _, ⟨s.toks, ?_⟩, q⟩
  show Value.int ((its.toArray.toList.countP (eqS k) : Nat) : Int) s.toks = Value.int ((ns.count k : Nat) : Int) s.toks
  rw [ec]

/-! ### list(t), t a text -/
theorem vals_get : ∀ {xs : List V} {us : List Value}, xs.length = us.length → (∀ (i : Nat) (x : V) (v : Value), xs[i]? = some x → us[i]? = some v → RelV x v) → Vals xs us
  | [], [], _, _ => .nil
  | [], _ :: _, h, _ => by cases h
  | _ :: _, [], h, _ => by cases h
  | x :: xs, u :: us, h, f => .cons (f 0 x u rfl rfl) (vals_get (by simpa using h) fun i y v e1 e2 => f (i + 1) y v (by simpa using e1) (by simpa using e2))
theorem call_listT (hc : X.calm = true) : CallR X (.type "list") (fun xs H Q => ∃ z : Str, xs = [.str z] ∧ z.cps.size ≤ sizeLine ∧ ∀ l, H l = none → Q (.ref l) (upd H l (.lst (z.cps.toList.map fun c => V.str ⟨#[c]⟩)))) := by
  intro pins s σ H xs us Q I r h
  obtain ⟨z, rfl, hz, q⟩ := h
  obtain ⟨u, rfl, rx⟩ := vals1 r
  obtain ⟨t, rfl⟩ := rx
  refine call_list_str (hn := hz) (I.ok.hd hc) z t fun h' tk acc c kp he hi => ?_
  have hv : Vals (z.cps.toList.map fun c => V.str ⟨#[c]⟩) acc.toList := by
    obtain ⟨h1, h2⟩ := hi
    refine vals_get (by rw [List.length_map, Array.length_toList, Array.length_toList, h1]) fun i x v ex ev => ?_
    rw [List.getElem?_map, Array.getElem?_toList] at ex
    rw [Array.getElem?_toList] at ev
    obtain ⟨cc, u, e1, e2⟩ := h2 i v ev
    rw [e1] at ex
    have ex : V.str ⟨#[cc]⟩ = x := Option.some.inj ex
    rw [← ex, e2]
    exact ⟨u, rfl⟩
  exact ⟨.ref s.heap.objs.size, _, I.laid (o := .lst (z.cps.toList.map fun c => V.str ⟨#[c]⟩)) (t' := tk) kp (Nat.le_refl _) ⟨by rw [List.length_map, Array.length_toList]; exact hz, acc.toList, c, hv, he⟩, rfl, q _ (I.hok.fresh (Nat.le_refl _))⟩
end
end AL
set_option Elab.async false
set_option linter.all false
set_option maxRecDepth 100000
set_option maxHeartbeats 4000000
namespace AL
open PySem PySem.Spec PyProof.Rows L2
def keyD : Key → PyData
  | .inl i => .int i
  | .inr x => .str x
mutual
/-- x is the datum d, over tracked lists, tuples, dicts -/
inductive Dat (H : Hp) : V → PyData → Prop
  | non : Dat H .non .none
  | bl (b : Bool) : Dat H (.bl b) (.bool b)
  | int (i : Int) : Dat H (.int i) (.int i)
  | str (x : Str) : Dat H (.str x) (.str x)
  | lst {a : Addr} {xs : List V} {ds : List PyData} : Rd H a (.lst xs) → Dats H xs ds → Dat H (.ref a) (.list ds)
  | tup {a : Addr} {xs : List V} {ds : List PyData} : Rd H a (.tup xs) → Dats H xs ds → Dat H (.ref a) (.tuple ds)
  | dic {a : Addr} {kvs : List (Key × V)} {ds : List PyData} : Rd H a (.dK kvs) → Dats H (kvs.map (·.2)) ds → Dat H (.ref a) (.dict ((kvs.map fun q => keyD q.1).zip ds))
inductive Dats (H : Hp) : List V → List PyData → Prop
  | nil : Dats H [] []
  | cons {x : V} {xs : List V} {d : PyData} {ds : List PyData} : Dat H x d → Dats H xs ds → Dats H (x :: xs) (d :: ds)
end
theorem Dats.len {H : Hp} : ∀ {xs : List V} {ds : List PyData}, Dats H xs ds → xs.length = ds.length
  | _, _, .nil => rfl
  | _, _, .cons _ t => by simp [Dats.len t]
theorem Dats.of {H : Hp} {α : Type} (f : α → V) (g : α → PyData) : ∀ (l : List α), (∀ x ∈ l, Dat H (f x) (g x)) → Dats H (l.map f) (l.map g)
  | [], _ => .nil
  | x :: l, h => .cons (h x List.mem_cons_self) (Dats.of f g l fun y hy => h y (List.mem_cons_of_mem _ hy))
theorem Dats.strs {H : Hp} (l : List Str) : Dats H (l.map V.str) (l.map PyData.str) := Dats.of _ _ l fun x _ => .str x

/-- what is read at a: tracked, no other thing -/
def TrkD (H : Hp) (a : Addr) : Prop := (∃ xs, Rd H a (.lst xs)) ∨ ∃ kvs, Rd H a (.dK kvs)
section
variable {P : Program} {w : World} {H : Hp} {h : Heap}
theorem pairs_keys : ∀ {es : List DictEntry} {vs : List (Key × Value)}, Pairs (mixKind P w) es vs → ReadsAll h (es.map (·.key)) (vs.map fun q => keyD q.1) []
  | _, _, .nil => .nil
  | _, _, .cons (kv := kv) hk hv t => by
    have r : ReadsAll h _ _ [] := pairs_keys t
    refine ReadsAll.cons (as := []) ?_ r
    obtain ⟨k, v⟩ := kv
    rcases keyIs_shape (show keyIs k _ = true from hk) with ⟨i, t, e1, e2⟩ | ⟨x, t, e1, e2⟩
    · have e1 : k = Sum.inl i := e1
      subst e1
      dsimp only
      rw [e2]
      exact .int i t
    · have e1 : k = Sum.inr x := e1
      subst e1
      dsimp only
      rw [e2]
      exact .str x t
theorem pairs_vals : ∀ {es : List DictEntry} {vs : List (Key × Value)}, Pairs (mixKind P w) es vs → es.map (·.val) = vs.map (·.2)
  | _, _, .nil => rfl
  | _, _, .cons hk hv t => by rw [List.map_cons, List.map_cons, hv, pairs_vals t]
theorem kv_keys : ∀ {kvs : List (Key × V)} {vs : List (Key × Value)}, KV kvs vs → (kvs.map fun q => keyD q.1) = vs.map fun q => keyD q.1
  | _, _, .nil => rfl
  | _, _, .cons r t => by rw [List.map_cons, List.map_cons, r.1, kv_keys t]
theorem kv_vals : ∀ {kvs : List (Key × V)} {vs : List (Key × Value)}, KV kvs vs → Vals (kvs.map (·.2)) (vs.map (·.2))
  | _, _, .nil => .nil
  | _, _, .cons r t => .cons r.2 (kv_vals t)
mutual
theorem dat_reads (ok : HOk P w H h) : ∀ {x : V} {d : PyData}, Dat H x d → ∀ {u : Value}, RelV x u → ∃ as, Reads h u d as ∧ ∀ a ∈ as, TrkD H a
  | _, _, .non, u, r => by cases r; exact ⟨[], .none, fun _ z => nomatch z⟩
  | _, _, .bl b, u, r => by cases r; exact ⟨[], .bool b, fun _ z => nomatch z⟩
  | _, _, .int i, u, r => by obtain ⟨t, rfl⟩ := r; exact ⟨[], .int i t, fun _ z => nomatch z⟩
  | _, _, .str x, u, r => by obtain ⟨t, rfl⟩ := r; exact ⟨[], .str x t, fun _ z => nomatch z⟩
  | _, _, .lst ha hd, u, r => by
    cases r
    obtain ⟨z, its, n, rv, e⟩ := Rd.ok ha ok
    obtain ⟨as, ra, ta⟩ := dats_reads ok hd rv
    exact ⟨_ :: as, .list e rfl rfl ra, fun b hb => by
      rcases List.mem_cons.mp hb with q | q
      · rw [q]
        exact .inl ⟨_, ha⟩
      · exact ta b q⟩
  | _, _, .tup ha hd, u, r => by
    cases r
    obtain ⟨z, its, rv, o, e, c, n, dd⟩ := Rd.ok ha ok
    obtain ⟨as, ra, ta⟩ := dats_reads ok hd rv
    exact ⟨as, .tuple e c dd (by simpa using ra), ta⟩
  | _, _, .dic (kvs := kvs) (ds := ds) ha hd, u, r => by
    cases r
    obtain ⟨z, hsys, vs, rel, o, es, ep, e, ex, dd, _, pr, _⟩ := dk_rd ok ha
    obtain ⟨as, ra, ta⟩ := dats_reads ok hd (kv_vals rel)
    have hl : (kvs.map fun q => keyD q.1).length = ds.length := by
      have := Dats.len hd
      simpa using this
    refine ⟨_ :: [] ++ as, .dict e ex.1 dd ?_ ?_, fun b hb => ?_⟩
    · rw [List.map_fst_zip (Nat.le_of_eq hl), kv_keys rel]
      exact pairs_keys pr
    · rw [List.map_snd_zip (Nat.le_of_eq hl.symm), pairs_vals pr]
      exact ra
    · rcases List.mem_cons.mp hb with q | q
      · rw [q]
        exact .inr ⟨_, ha⟩
      · exact ta b q
theorem dats_reads (ok : HOk P w H h) : ∀ {xs : List V} {ds : List PyData}, Dats H xs ds → ∀ {us : List Value}, Vals xs us → ∃ as, ReadsAll h us ds as ∧ ∀ a ∈ as, TrkD H a
  | _, _, .nil, us, r => by cases r; exact ⟨[], .nil, fun _ z => nomatch z⟩
  | _, _, .cons hd ht, us, r => by
    cases r with
    | cons r1 r2 =>
      obtain ⟨as, ra, ta⟩ := dat_reads ok hd r1
      obtain ⟨bs, rb, tb⟩ := dats_reads ok ht r2
      exact ⟨as ++ bs, .cons ra rb, fun b hb => (List.mem_append.mp hb).elim (ta b) (tb b)⟩
end
end
/-- sys.modules is out of reach -/
def SysOk (H : Hp) : Prop := ∃ o φ, H sysModules = some (.frz o (.ext φ))
theorem sys_out {H : Hp} (hs : SysOk H) {a : Addr} (ht : TrkD H a) : a ≠ sysModules := fun e => by
  obtain ⟨o, φ, hs⟩ := hs
  subst e
  rcases ht with ⟨xs, h | ⟨o', h⟩⟩ | ⟨xs, h | ⟨o', h⟩⟩ <;> rw [hs] at h <;> cases h
section
variable {X : Cx}
/-- repr(x), x a list, a tuple, a dict -/
def rRepr : List V → Hp → VK → Prop := fun xs H Q => ∃ (a : Addr) (d : PyData), xs = [.ref a] ∧ SysOk H ∧ Dat H (.ref a) d ∧ d.showable = true ∧ d.depth ≤ 60 ∧ d.shown.length ≤ sizeLine ∧ Q (.str d.shown) H
theorem call_reprD {k : Nat} (hr : Room k X.A) (hgd : X.A.guards = some []) : CallR X (.builtin "repr") rRepr := by
  intro pins s σ H xs us Q I r h
  obtain ⟨a, d, rfl, hs, hd, h1, h2, h3, q⟩ := h
  rw [Vals.ref1 r]
  obtain ⟨as, ra, ta⟩ := dat_reads I.hok hd (u := .ref a) rfl
  refine repr_of_reads' ra h1 (fun _ hm => sys_out hs (ta _ hm) rfl) hgd (by have := hr.un; omega) (fun b o e => e) (fun h' u tk k => ?_) h3
  exact ⟨.str d.shown, H, I.kept (t' := tk) k, ⟨u, rfl⟩, q⟩
end
end AL
set_option Elab.async false
set_option linter.all false
set_option maxRecDepth 100000
set_option maxHeartbeats 4000000
namespace AL
open PySem PySem.Spec PyProof.Rows L2
open GxR (TabB TabG Tabbed)
/-! ### promises that lean on the guards -/
/-- as FnOk, for callers with no repr under way -/
structure FnG (P : Program) (w : World) (K : PySem.W.Frag) (mg : Str → Option Value) (base : Heap) (CX : CXT) (k : Nat) (f : Addr) (fd : FuncData) (ps : List Str) (sp : Sp) : Prop where
  len : ∀ vs H Q E, sp vs H Q E → vs.length = ps.length
  run : ∀ (A : Around) (outer : List Env) (s : Shared) (H : Hp) (args : Args) (us : List Value) (vs : List V) (Q : VK) (E : XK), A.guards = some [] → Room k A → Env0 P w K mg base A outer s H → BindsTo s fd args (ps.zip us) → Vals vs us → sp vs H Q E →
    codeAny (model P w) A (.call (.ref f) args) (CR CX outer P w H s Q E) s
section
variable {P : Program} {w : World} {K : PySem.W.Frag} {mg : Str → Option Value} {base : Heap} {k : Nat} {f : Addr} {fd : FuncData}
theorem fnG_of {CX : CXT} {name qual : Str} {params : Arguments} {body : List Stmt} {scope : Scope} {dV kV doc pm cdv ct oc : Value} {an od : Option Addr}
    {osl : Array (Option Value)} {N ps : List Str} {sp : Sp} (lk : K.lookup f = some ⟨oc, od, .func (PySem.W.fnOf name qual params body scope dV kV doc pm an cdv ct), osl⟩) (hcd : PySem.W.codeIn K cdv qual = true) (S : FnScope N ps scope)
    (len : ∀ vs H Q E, sp vs H Q E → vs.length = ps.length)
    (hbody : ∀ (A : Around) (outer : List Env) (s : Shared) (H : Hp) (vs : List V) (Q : VK) (E : XK), A.guards = some [] → Room k (A.deeper (envOfC qual scope s.heap.objs.size f cdv)) → sp vs H Q E →
      ∃ t, PSs (cxOf CX P w K mg base N qual scope f cdv A outer s H E) body t ∧ t { nx := fun _ H' => Q .non H', rt := Q } (start N vs) H) :
    FnG P w K mg base CX (k + 1) f (PySem.W.fnOf name qual params body scope dV kV doc pm an cdv ct) ps sp := by
  refine ⟨len, fun A outer s H args us vs Q E hgd hr e0 hb r hsp => ?_⟩
  have KX : K.In s.heap := e0.mod.kin.keeps fun b o e => (e0.bs b o e).1
  have lim : s.heap.NoLimit := e0.mod.nolimit.keeps fun b o e => (e0.bs b o e).1
  refine codeAny_call_function hr.depth (KX _ _ lk) rfl S.co S.gen rfl (PySem.W.codeRec_of KX hcd) (hb _ _ _ _ ?_)
  refine wpAny_newFunctionEnv_cells S.kind (fun ⟨n, v⟩ hy => ?_) fun env he s1 x => ?_
  · rcases S.par n (List.of_mem_zip hy).1 with q | q
    · exact .inl q
    · exact .inr ⟨q, PySem.W.cellsFrom_some _ _ _ (.inl q)⟩
  subst he
  refine ⟨lim.keeps x.toInCall.keep, codeAny_func ?_⟩
  obtain ⟨t, ht, hq⟩ := hbody A outer s H vs Q E hgd (hr.deeper _) hsp
  have I : Inv (cxOf CX P w K mg base N qual scope f cdv A outer s H E) [] (start N vs) H s1 := inv_start S hr.hd e0 (len _ _ _ _ hsp) r x
  refine wpAny_mono (ht.run [] s1 (start N vs) H _ I hq) (fun fl s' hs => ?_) fun e s' hs => hs
  cases fl with
  | ret u =>
    obtain ⟨v, σ', H', J, rv, q⟩ := hs
    exact ⟨v, H', J.os, J.bare, J.base, J.hok, rv, q⟩
  | next =>
    obtain ⟨σ', H', J, q⟩ := hs
    exact ⟨V.non, H', J.os, J.bare, J.base, J.hok, rfl, q⟩
  | brk =>
    obtain ⟨_, _, _, q⟩ := hs
    exact False.elim q
  | cont =>
    obtain ⟨_, _, _, q⟩ := hs
    exact False.elim q
/-- a def's body -/
theorem funG_ok {x qual : Str} {params : Arguments} {body : List Stmt} {scope : Scope} {dvs : List V} {kws : List (Str × V)} {N ps : List Str} {sp : Sp} (F : FunD K x qual params body scope dvs kws f fd) (S : FnScope N ps scope) (len : ∀ vs H Q E, sp vs H Q E → vs.length = ps.length)
    (hbody : ∀ (cdv : Value) (A : Around) (outer : List Env) (s : Shared) (H : Hp) (vs : List V) (Q : VK) (E : XK), A.guards = some [] → Room k (A.deeper (envOfC qual scope s.heap.objs.size f cdv)) → sp vs H Q E →
      ∃ t, PSs (cxOf CX0 P w K mg base N qual scope f cdv A outer s H E).nox body t ∧ t { nx := fun _ H' => Q .non H', rt := Q } (start N vs) H) : FnG P w K mg base CX0 (k + 1) f fd ps sp := by
  obtain ⟨oc, od, dV, kV, doc, pm, an, cdv, ct, osl, rfl, lk, hcd, _, _⟩ := F.ex
  refine fnG_of lk hcd S len fun A outer s H vs Q E hgd hr hsp => ?_
  obtain ⟨t, h, q⟩ := hbody cdv A outer s H vs Q E hgd hr hsp
  exact ⟨t, h.nox, q⟩
end
section
variable {X : Cx} {CX : CXT} {k : Nat} {f : Addr} {fd : FuncData} {ps : List Str} {sp : Sp} {dvs : List V} {ds : List Value} {E : XK} {x : Str} {p pos : Pos} {e : Expr} {es : List Expr} {t : TA}
theorem pe_callG (F : FnG X.prog X.w X.K X.mg X.base CX k f fd ps sp) (hgd : X.A.guards = some []) (hr : Room k X.A) (hg : Gl X x) (hm : X.mg x = some (.ref f)) (hk : PySem.W.keepIn X.K (.ref f) = true) (hb : Binds X.K fd ps ds) (hd : Vals dvs ds) (hx : Passes CX X E)
    (ha : PA X (e :: es) t) (hdb : (x == ("__debug__" : Str)) = false := by decide) (he : starEach (e :: es) X.env = (false, eval e X.env) :: starEach es X.env := by rfl) (hpl : (backTo pos (starEach es X.env)).any (·.1) = false := by rfl) :
    PE X (.Call (.Name x p) (e :: es) [] pos) (tCall sp dvs E t) := by
  refine ⟨fun pins s σ H Q I h => ?_⟩
  refine wpAny_Call_Name_kw (ld_glob I hg hm ?_ hdb)
  refine PySem.W.callWith_K (h₀ := X.base) I.ok.mod.kin hk (thn (ha.run pos pins s σ H _ I h) fun us s1 ⟨vs, H1, I1, r, q⟩ => ⟨I1.kIn, ?_⟩) he hpl
  have r2 : Vals (vs ++ dvs) (us ++ ds) := r.append hd
  refine wpAny_call (codeAny_mono (F.run X.A X.stack s1 H1 ⟨us, []⟩ (us ++ ds) (vs ++ dvs) _ E hgd hr I1.env0 (hb s1 us I1.kIn (by rw [← r2.length]; exact F.len _ _ _ _ q)) r2 q) fun r' s' hq => ?_)
  cases r' with
  | error ev => exact hx pins σ H1 s1 ev s' I1 hq
  | ok fl =>
    cases fl with
    | ret u => exact I1.after hq
    | next => exact False.elim hq
    | brk => exact False.elim hq
    | cont => exact False.elim hq
end

/-! ### the end -/
/-- the abstract heap at the law's entry: sys.modules, the tables, the script -/
noncomputable def hp0 (K : PySem.W.Frag) (cs : List (Addr × Addr)) (os oa : Obj) (a : Addr) (xs : List V) : Hp := fun b =>
  if b = sysModules then some (.frz os (.ext fun _ => True)) else
  if b ∈ cs.map (·.2) then some (.tbl #[]) else
  if b = a ∧ K.lookup a = none then some (.frz oa (.lst xs)) else none
section
variable {K : PySem.W.Frag} {cs : List (Addr × Addr)} {os oa : Obj} {a : Addr} {xs : List V}
theorem hp0_sys : hp0 K cs os oa a xs sysModules = some (.frz os (.ext fun _ => True)) := if_pos rfl
theorem hp0_tab {b : Addr} (h1 : b ≠ sysModules) (h2 : b ∈ cs.map (·.2)) : hp0 K cs os oa a xs b = some (.tbl #[]) := (if_neg h1).trans (if_pos h2)
theorem hp0_scr {b : Addr} (h1 : b ≠ sysModules) (h2 : b ∉ cs.map (·.2)) (h3 : b = a ∧ K.lookup a = none) : hp0 K cs os oa a xs b = some (.frz oa (.lst xs)) := (if_neg h1).trans ((if_neg h2).trans (if_pos h3))
theorem hp0_non {b : Addr} (h1 : b ≠ sysModules) (h2 : b ∉ cs.map (·.2)) (h3 : ¬ (b = a ∧ K.lookup a = none)) : hp0 K cs os oa a xs b = none := (if_neg h1).trans ((if_neg h2).trans (if_neg h3))
/-- what stands at b -/
theorem hp0_cases (b : Addr) : (b = sysModules ∧ hp0 K cs os oa a xs b = some (.frz os (.ext fun _ => True))) ∨
    (b ≠ sysModules ∧ b ∈ cs.map (·.2) ∧ hp0 K cs os oa a xs b = some (.tbl #[])) ∨
    (b ≠ sysModules ∧ b ∉ cs.map (·.2) ∧ (b = a ∧ K.lookup a = none) ∧ hp0 K cs os oa a xs b = some (.frz oa (.lst xs))) ∨
    (b ≠ sysModules ∧ b ∉ cs.map (·.2) ∧ ¬ (b = a ∧ K.lookup a = none) ∧ hp0 K cs os oa a xs b = none) := by
  by_cases h1 : b = sysModules
  · exact .inl ⟨h1, by rw [h1]; exact hp0_sys⟩
  by_cases h2 : b ∈ cs.map (·.2)
  · exact .inr (.inl ⟨h1, h2, hp0_tab h1 h2⟩)
  by_cases h3 : b = a ∧ K.lookup a = none
  · exact .inr (.inr (.inl ⟨h1, h2, h3, hp0_scr h1 h2 h3⟩))
  · exact .inr (.inr (.inr ⟨h1, h2, h3, hp0_non h1 h2 h3⟩))
end
theorem law_callG {P : Program} {w : World} {K : PySem.W.Frag} {mg mb : Str → Option Value} {k : Nat} {fa a : Addr} {cs : List (Addr × Addr)} {fd : FuncData} {x : Str} {sp : Sp} {s₁ : Shared} {vs : List Value} {ns : List Int} {osys : Obj}
    (KX : K.In s₁.heap) (hns : s₁.heap.Ns mainGlobals mg) (hb : s₁.heap.Ns builtinsNs mb) (hbb : ∀ y : Str, y ≠ "__name__" → mb y = bootBuiltins y) (hlim : s₁.heap.NoLimit) (hg : s₁.gens = #[])
    (hT : ∀ p ∈ cs, s₁.heap.get? p.2 = some { cls := .none, data := .fields #[] })
    (nT : ∀ p ∈ cs, K.lookup p.2 = none) (C : ∀ p ∈ cs, PySem.W.CodeHd s₁.heap p.1 p.2)
    (hbm : ∃ (m : Addr) (om : Obj), mg "__builtins__" = some (.ref m) ∧ m ≠ builtinsNs ∧ s₁.heap.get? m = some om ∧
      om.cls = .type "module" ∧ om.dict = some builtinsNs ∧ om.data = .plain)
    (hsys : s₁.heap.get? sysModules = some osys) (hsysd : ∃ es ep, osys.data = .dict es ep) (nS : K.lookup sysModules = none)
    (ha : s₁.heap.get? a = some { cls := .type "list", data := .seq vs.toArray }) (hi : IntsAre vs ns) (hl : ns.length ≤ sizeLine) (hr : Room k callerA)
    (F : ∀ base : Heap, K.In base → base.Ns mainGlobals mg → (∀ p ∈ cs, TabB base mg p.1 p.2) → FnG P w K mg base CX0 k fa fd [x] sp)
    (hbind : ∀ (s : Shared) (u : Value), BindsTo s fd ⟨[u], []⟩ [(x, u)])
    (hsp : ∀ H : Hp, (∀ p ∈ cs, H p.2 = some (.tbl #[])) → SysOk H → SqL K H a (ns.map V.int) → sp [.ref a] H (fun v _ => v = .bl true) fun _ _ _ => False) :
    codeAny (model P w) callerA (.call (.ref fa) ⟨[.ref a], []⟩)
      (fun r s' => r = .ok (.ret (.bool true)) ∧ OldK s₁.heap s'.heap ∧ s'.os = s₁.os ∧ AllBare s'.gens) s₁ := by
  obtain ⟨se, sp1, sd⟩ := hsysd
  generalize hoa : ({ cls := .type "list", data := .seq vs.toArray } : Obj) = oa at ha
  -- the places differ
  have tabOf : ∀ b : Addr, b ∈ cs.map (·.2) → s₁.heap.get? b = some { cls := .none, data := .fields #[] } := by
    intro b q
    obtain ⟨p, hp, e⟩ := List.mem_map.mp q
    exact e ▸ hT p hp
  have sysT : sysModules ∉ cs.map (·.2) := fun q => by
    have e := tabOf _ q
    rw [hsys] at e
    injection e with e
    rw [e] at sd
    cases sd
  have sysA : a ≠ sysModules := fun q => by
    rw [q, hsys] at ha
    injection ha with e
    rw [e, ← hoa] at sd
    cases sd
  have tabA : a ∉ cs.map (·.2) := fun q => by
    have e := tabOf _ q
    rw [ha, ← hoa] at e
    injection e with e
    injection e with _ _ e
    cases e
  have tabS : ∀ {b : Addr}, b ∈ cs.map (·.2) → b ≠ sysModules := fun q z => sysT (z ▸ q)
  have rows := vals_ints hi
  have hlen : (ns.map V.int).length ≤ sizeLine := by rw [List.length_map]; exact hl
  generalize hH : hp0 K cs osys oa a (ns.map V.int) = H
  have what : ∀ b, _ := fun b => hH ▸ hp0_cases (K := K) (cs := cs) (os := osys) (oa := oa) (a := a) (xs := ns.map V.int) b
  have hok : HOk P w H s₁.heap := by
    intro b u q
    rcases what b with ⟨e, z⟩ | ⟨_, e, z⟩ | ⟨_, _, e, z⟩ | ⟨_, _, _, z⟩
    · rw [z] at q; cases q
      exact e ▸ ⟨hsys, trivial, ⟨_, hsys⟩, fun _ _ _ _ => trivial⟩
    · rw [z] at q; cases q
      exact tabOf b e
    · rw [z] at q; cases q
      exact e.1 ▸ ⟨ha, hlen, vs, _, rows, hoa ▸ ha⟩
    · rw [z] at q; cases q
  -- what isn't of these kinds stays in the base
  have free : ∀ {b : Addr} {o : Obj}, s₁.heap.get? b = some o → b ≠ sysModules → o ≠ { cls := .none, data := .fields #[] } → o ≠ oa → H b = none := by
    intro b o e h1 h2 h3
    rcases what b with ⟨q, _⟩ | ⟨_, q, _⟩ | ⟨_, _, q, _⟩ | ⟨_, _, _, z⟩
    · exact (h1 q).elim
    · exact (h2 (Option.some.inj (e.symm.trans (tabOf b q)))).elim
    · exact (h3 (Option.some.inj (e.symm.trans (q.1 ▸ ha)))).elim
    · exact z
  have dfree : ∀ {b : Addr} {o : Obj} {es : Array DictEntry} {ep : Nat}, s₁.heap.get? b = some o → o.data = .dict es ep → b ≠ sysModules → H b = none := by
    intro b o es ep e d h1
    refine free e h1 (fun z => ?_) fun z => ?_
    · rw [z] at d; cases d
    · rw [z, ← hoa] at d; cases d
  have nsB : ∀ {b : Addr} {m : Str → Option Value}, b ≠ sysModules → s₁.heap.Ns b m → (hidT s₁.heap H).Ns b m := by
    rintro b m h1 ⟨o, es, ep, e, d, r⟩
    exact ⟨o, es, ep, hidT_get e (dfree e d h1), d, r⟩
  have Kb : K.In (hidT s₁.heap H) := by
    intro b o e
    refine hidT_get (KX b o e) ?_
    rcases what b with ⟨q, _⟩ | ⟨_, q, _⟩ | ⟨_, _, q, _⟩ | ⟨_, _, _, z⟩
    · rw [q, nS] at e; cases e
    · obtain ⟨p, hp, z⟩ := List.mem_map.mp q
      rw [← z, nT p hp] at e; cases e
    · rw [q.1, q.2] at e; cases e
    · exact z
  have M : L2.Mod K mg (hidT s₁.heap H) := ⟨Kb, nsB (by decide) hns, ⟨mb, nsB (by decide) hb, hbb⟩, let ⟨mc, h1, h2⟩ := hlim; ⟨mc, nsB (by decide) h1, h2⟩⟩
  have TB : ∀ p ∈ cs, TabB (hidT s₁.heap H) mg p.1 p.2 := by
    intro p hp
    have tp := hT p hp
    refine ⟨?_, ?_, fun z => ?_⟩
    · obtain ⟨o, us, file, tf, flags, tg, inF, text, tt, e1, r1, r2, r⟩ := C p hp
      refine ⟨o, us, file, tf, flags, tg, inF, text, tt, hidT_get e1 (free e1 (fun z => ?_) (fun z => ?_) fun z => ?_), r1, r2, r⟩
      · rw [z, hsys] at e1; injection e1 with e1
        rw [e1, r2] at sd; cases sd
      · rw [z] at r2; cases r2
        simp at r
      · rw [z, ← hoa] at r2; cases r2
    · obtain ⟨m, om, b1, b2, b3, b4, b5, b6⟩ := hbm
      refine ⟨m, om, b1, b2, fun q => ?_, fun q => ?_, hidT_get b3 (free b3 (fun z => ?_) (fun z => ?_) fun z => ?_), b4, b5, b6⟩
      · obtain ⟨o, es, ep, e, d, _⟩ := hns
        rw [← q, b3] at e; injection e with e
        rw [← e, b6] at d; cases d
      · rw [q, tp] at b3; cases b3; cases b6
      · rw [z, hsys] at b3; injection b3 with b3
        rw [b3, b6] at sd; cases sd
      · rw [z] at b6; cases b6
      · rw [z, ← hoa] at b6; cases b6
    · obtain ⟨o, es, ep, e, d, _⟩ := hns
      rw [z, tp] at e; cases e; cases d
  have E0 : Env0 P w K mg (hidT s₁.heap H) callerA [] s₁ H :=
    ⟨rfl, M, fun _ _ e => of_hidT e, Nat.le_of_eq (hidT_size _ _), trivial, fun b q => absurd q (List.not_mem_nil), hok, .of_eq hg⟩
  have scr : SqL K H a (ns.map V.int) := by
    cases q : K.lookup a with
    | none => exact .inl (.inr ⟨oa, hH ▸ hp0_scr sysA tabA ⟨rfl, q⟩⟩)
    | some o =>
      have e := KX a o q
      rw [ha] at e; injection e with e
      subst e; subst hoa
      exact .inr ⟨_, vs.toArray, _, q, rfl, rfl, rfl, by rw [List.size_toArray, hi.length]; exact hl, by simpa using rows⟩
  have tabs : ∀ p ∈ cs, H p.2 = some (.tbl #[]) := fun p hp => hH ▸ hp0_tab (tabS (List.mem_map.mpr ⟨p, hp, rfl⟩)) (List.mem_map.mpr ⟨p, hp, rfl⟩)
  have sysH : SysOk H := ⟨osys, _, hH ▸ hp0_sys⟩
  have R := (F _ Kb (nsB (by decide) hns) TB).run callerA [] s₁ H ⟨[.ref a], []⟩ [.ref a] [.ref a] _ _ rfl hr E0 (hbind s₁ (.ref a)) (.cons rfl .nil) (hsp H tabs sysH scr)
  refine codeAny_mono R fun r s' h => ?_
  match r, h with
  | .error e, h => exact False.elim h
  | .ok .next, h => exact False.elim h
  | .ok .brk, h => exact False.elim h
  | .ok .cont, h => exact False.elim h
  | .ok (.ret u), h =>
    obtain ⟨v, H', os, bare, un, ok2, r', q⟩ := h
    cases (show v = .bl true from q)
    obtain rfl : u = Value.bool true := r'
    have same : ∀ {b : Addr} {ob o : Obj} {y : HO}, H b = some (.frz ob y) → s₁.heap.get? b = some o → s'.heap.get? b = some o := fun z e => by
      have e1 := (hok _ _ z).1
      rw [e] at e1; injection e1 with e1
      exact e1 ▸ (ok2 _ _ (un.frzs _ _ _ z)).1
    have stay : ∀ b o, b ∉ cs.map (·.2) → s₁.heap.get? b = some o → s'.heap.get? b = some o := by
      intro b o nb e
      rcases what b with ⟨_, z⟩ | ⟨_, q, _⟩ | ⟨_, _, _, z⟩ | ⟨_, _, _, z⟩
      · exact same z e
      · exact (nb q).elim
      · exact same z e
      · exact un.keep b o e z (List.not_mem_nil) (List.not_mem_nil)
    have grown : ∀ p ∈ cs, ∃ more : Array Value, s'.heap.get? p.2 = some { cls := .none, data := .fields more } := fun p hp => by
      obtain ⟨more, z⟩ := un.tbls p.2 #[] (tabs p hp)
      exact ⟨_, ok2 p.2 _ z⟩
    refine ⟨rfl, ⟨fun b o e => ?_, fun b o e => ?_⟩, os, bare⟩
    · by_cases q : b ∈ cs.map (·.2)
      · obtain ⟨p, hp, z⟩ := List.mem_map.mp q
        obtain ⟨more, hm⟩ := grown p hp
        subst z
        have e' := hT p hp
        rw [e] at e'; cases e'
        exact .inr (.inl ⟨((C p hp).tab (hT p hp)).isCodeTable, rfl, #[], more, rfl, by rw [Array.empty_append]; exact hm⟩)
      · exact .inl (stay b o q e)
    · by_cases q : b ∈ cs.map (·.2)
      · obtain ⟨p, hp, z⟩ := List.mem_map.mp q
        subst z
        obtain ⟨more, hm⟩ := grown p hp
        exact ⟨_, hm⟩
      · exact ⟨o, stay b o q e⟩
end AL
set_option Elab.async false
set_option linter.all false
set_option maxRecDepth 100000
set_option maxHeartbeats 4000000
namespace AL
open PySem PySem.Spec PyProof.Rows L2
open GxR (TabB TabG Tabbed)
/-! ### the head's facts, sys.modules among them -/
def sysB (g : Addr → Option Obj) : Bool := match g sysModules with
  | some ⟨_, _, .dict _ _, _⟩ => true
  | _ => false
theorem sysB_ok {g : Addr → Option Obj} (h : sysB g = true) : ∃ o, g sysModules = some o ∧ ∃ es ep, o.data = .dict es ep := by
  unfold sysB at h
  cases q : g sysModules with
  | none => rw [q] at h; cases h
  | some o =>
    obtain ⟨oc, od, dt, osl⟩ := o
    rw [q] at h
    cases dt with
    | dict es ep => exact ⟨_, rfl, es, ep, rfl⟩
    | _ => cases h
def noSys (K : PySem.W.Frag) : Bool := (K.lookup sysModules).isNone
abbrev AlG : Type := He.AlX × Bool
def obsG (n : Nat) (fa : List He.Fa) (fn : List He.DefD) (ts : List He.Tab) (tf : List He.Defn) (g : Addr → Option Obj) : AlG := (He.obsX n fa fn ts tf noSys g, sysB g)
structure SaysG (fa : List He.Fa) (fn : List He.DefD) (ts : List He.Tab) (tf : List He.Defn) (w : World) (h : Heap) : Prop where
  x : ∃ K : PySem.W.Frag, K.In h ∧ He.SaysX fa fn ts tf noSys w h K
  sys : ∃ o, h.get? sysModules = some o ∧ ∃ es ep, o.data = .dict es ep
def hookG (n : Nat) (fa : List He.Fa) (fn : List He.DefD) (ts : List He.Tab) (tf : List He.Defn) : PySem.W.Hook where
  α := AlG
  obs := fun s => obsG n fa fn ts tf s.heap.get?
  val := fun w => (He.valX fn ts w, true)
  says := fun w h => SaysG fa fn ts tf w h
  of := fun _ _ e => ⟨⟨_, He.frT_in, He.saysX_of (congrArg (fun z : AlG => z.1) e)⟩, sysB_ok (congrArg (fun z : AlG => z.2) e)⟩
  keeps := fun w h h' c k => ⟨(He.hookX n fa fn ts tf noSys).keeps w h h' c.x k, let ⟨o, e, d⟩ := c.sys; ⟨o, k _ _ e, d⟩⟩
theorem obsG_eq {n : Nat} {fa : List He.Fa} {fn : List He.DefD} {ts : List He.Tab} {tf : List He.Defn} {g : Addr → Option Obj} {s : Shared} (h : ∀ a, g a = s.heap.get? a) : obsG n fa fn ts tf g = (hookG n fa fn ts tf).obs s := by
  have e : g = s.heap.get? := funext h
  rw [e] <;> rfl
/-! ### the walk -/
/-- what the head must tell of the law's own def -/
structure LawG (l : PySem.W.OpenLaw) (w : World) (K : PySem.W.Frag) (k n : Nat) (x : Str) (mg : Str → Option Value) (fa : Addr) (h : Heap) (fd : FuncData) (cs : List (Addr × Addr)) (sp : Sp) : Prop where
  bare : ∀ p ∈ cs, h.get? p.2 = some { cls := .none, data := .fields #[] }
  out : ∀ p ∈ cs, K.lookup p.2 = none
  hd : ∀ p ∈ cs, PySem.W.CodeHd h p.1 p.2
  nsys : K.lookup sysModules = none
  binds : ∀ (s : Shared) (u : Value), BindsTo s fd ⟨[u], []⟩ [(x, u)]
  holds : ∀ (H : Hp) (a : Addr) (ns : List Int), ns.length ≤ n → (∀ z ∈ ns, Builtin.Int.intBits z ≤ 1048576) → (∀ p ∈ cs, H p.2 = some (.tbl #[])) → SysOk H →
    SqL K H a (ns.map V.int) → sp [.ref a] H (fun v _ => v = .bl true) fun _ _ _ => False
  ok : ∀ base : Heap, K.In base → base.Ns mainGlobals mg → (∀ p ∈ cs, TabB base mg p.1 p.2) → FnG l.prog w K mg base CX0 k fa fd [x] sp
theorem walk_ofG {l : PySem.W.OpenLaw} {n k : Nat} {q : Program} {loose : List Str} {XP : (Str → Option Value) → Heap → Prop} {YP : World → Heap → Prop} {d : DefRec} {x : Str}
    (hn : l.most = some n) (hn2 : n ≤ sizeLine) (hdf : d.params.defaults = []) (hr : Room k callerA)
    (hsys : ∀ (w : World) (h : Heap), YP w h → ∃ o, h.get? sysModules = some o ∧ ∃ es ep, o.data = .dict es ep)
    (F : ∀ (w : World) (mg : Str → Option Value) (fa : Addr) (h : Heap), YP w h → h.Ns mainGlobals mg → mg d.name = some (.ref fa) →
      ∃ (K : PySem.W.Frag) (fd : FuncData) (cs : List (Addr × Addr)) (sp : Sp), K.In h ∧ LawG l w K k n x mg fa h fd cs sp) :
    PySem.W.WalkO q loose XP YP l.row.toRowW d [] (fun f vs => PySem.call f vs) := by
  refine Att.attach_callB hn hdf ?_
  intro w s₀ s₁ mg mb fa o pm cd doc a vs ns G Y _ _ _ hmg hobj hints hlen hbits hg
  obtain ⟨K, fd, cs, sp, KX, L⟩ := F w mg fa _ Y G.T.g hmg
  obtain ⟨osys, hs, hd⟩ := hsys w _ Y
  exact law_callG (osys := osys) KX G.T.g G.T.b G.T.builtins G.T.nolimit hg L.bare L.out L.hd G.T.bmain hs hd L.nsys hobj hints (Nat.le_trans hlen hn2) hr L.ok L.binds
    fun H h1 h2 h3 => L.holds H a ns hlen hbits h1 h2 h3
/-- all facts by place -/
theorem saysG_nosys {fa : List He.Fa} {fn : List He.DefD} {ts : List He.Tab} {tf : List He.Defn} {w : World} {h : Heap} {K : PySem.W.Frag} (c : He.SaysX fa fn ts tf noSys w h K) : K.lookup sysModules = none := Option.isNone_iff_eq_none.mp c.more
end AL
set_option Elab.async false
set_option linter.all false
set_option maxRecDepth 100000
set_option maxHeartbeats 4000000
namespace AL
open PySem PySem.Spec PyProof.Rows L2
section
variable {X : Cx}
/-- y = {k: v for .. in ..}, the new dict stored while the block stands -/
theorem ps_setDc {i : Nat} {y : Str} {py : Pos} {kx vx tg iter : Expr} {scope : Scope} {own : List (Str × Nat)} {pos spos : Pos} {wi : TI} {g : TG} {tk tv : TE}
    (hc : X.calm = true) (hN : X.N.Nodup) (hy : X.N[i]? = some y) (hloc : X.env.scope.names.lookup y = some .local)
    (hsw : swapsWith (.DictComp kx vx [⟨tg, iter, [], 0⟩] scope pos) (some (.Name y py)) spos.line X.env = pure true)
    (hi : PI X tg iter wi) (ok : BlkOk X.N X.env.scope scope own)
    (hg : ∀ (s1 : Shared) (H1 : Hp) (C : Addr) (cl : List (Str × Addr)) (fq : List Addr), PG (X.blk s1 H1 scope (compEnvC scope cl C X.env) fq) tg g)
    (hk : ∀ (s1 : Shared) (H1 : Hp) (C : Addr) (cl : List (Str × Addr)) (fq : List Addr), PE (X.blk s1 H1 scope (compEnvC scope cl C X.env) fq) kx tk)
    (hv : ∀ (s1 : Shared) (H1 : Hp) (C : Addr) (cl : List (Str × Addr)) (fq : List Addr), PE (X.blk s1 H1 scope (compEnvC scope cl C X.env) fq) vx tv)
    (hs : ∀ x, foldedSetIterable iter X.env x = pure x := by intro _; rfl) :
    PS X (.Assign [.Name y py] (.DictComp kx vx [⟨tg, iter, [], 0⟩] scope pos) spos) (tAsg (tDc wi g tYes tk tv (own.map (·.2))) (gName i)) := by
  constructor
  intro pins s σ H D I h
  rw [exec_Assign_Name_used _ _ _ _ hsw]
  apply wpAny_bind
  apply wpAny_standAt
  apply wpAny_bind
  show wpAny _ X.A (do let _ ← comprehension (.DictComp kx vx [⟨tg, iter, [], 0⟩] scope pos) scope X.env (firstIterPos [⟨tg, iter, [], 0⟩] pos) newDict false (eval iter X.env) (some (assign (.Name y py) X.env))) _ _ s
  have h' : tDc wi g tYes tk tv (own.map (·.2)) σ H (fun x H1 => gName i x σ H1 D.nx) := h
  apply wpAny_bind
  refine thn (dc_core (Qf := fun _ s1 => SP X pins D .next s1) hc hN I hi ok hg (fun _ _ _ _ _ => pts_nil) hk hv hs h' ?_) fun _ _ q => wpAny_pure (wpAny_pure q)
  intro L C s1 m H1 I1 q hn f
  obtain ⟨f0, f1, f2, f3, f4, f5⟩ := f
  show wpAny _ _ (assign (.Name y py) X.env (.ref L)) _ _ _
  refine wpAny_assign_Name (store_ok2 (v := V.ref L) I1 hN hy (.inl hloc) rfl ?_ (.inr hloc))
  rintro s2 I2 ⟨a, sb, ha⟩
  have nC : C ≠ a := ha.elim (fun z => z ▸ f1) fun z e => f4 y a z e.symm
  refine ⟨m, hn.sameBut sb nC, ?_⟩
  intro h3 sb3
  exact ⟨_, H1, I2.turned (t' := s2.toks) (fun b o hb e => (sb3.2 b hb).trans e) f0 f1 f3 f4 f5, q⟩
theorem sw_dc {kx vx : Expr} {gs : List Comprehension} {scope : Scope} {pos py : Pos} {y : Str} {l : Nat} {env : Env} (h1 : env.scope.kind = .function) (h2 : env.scope.names.lookup y = some .local) (h3 : (py.line == pos.line) = true)
    (h4 : (scope.names.any fun (n, k) => n == y && (k == .local || k == .cell)) = false) : swapsWith (.DictComp kx vx gs scope pos) (some (.Name y py)) l env = pure true := by
  have e1 : env.kindOf y = some .local := h2
  have e2 : env.blockKind = .function := by
    unfold Env.blockKind
    rw [h1]
    rfl
  unfold swapsWith
  simp only [e2, e1, h4, Expr.pos, h3]
  rfl
end
end AL
set_option Elab.async false
set_option linter.all false
set_option maxRecDepth 100000
set_option maxHeartbeats 4000000
namespace A8
open PySem PySem.Spec PyProof.Rows L2 AL
open GxR (TabB TabG Tabbed)
/-! ### the abstract heap: what stays -/
structure Ext (Ps : List Addr) (H H' : Hp) : Prop where
  kp : ∀ b o, H b = some o → b ∉ Ps → H' b = some o
  tb : ∀ p ∈ Ps, TabG H p → TabG H' p
def Tabs (Ps : List Addr) (H : Hp) : Prop := ∀ p ∈ Ps, TabG H p
section
variable {Ps : List Addr} {H H1 H2 : Hp}
theorem Ext.refl : Ext Ps H H := ⟨fun _ _ h _ => h, fun _ _ h => h⟩
theorem Ext.trans (a : Ext Ps H H1) (b : Ext Ps H1 H2) : Ext Ps H H2 := ⟨fun c o h n => b.kp c o (a.kp c o h n) n, fun p hp h => b.tb p hp (a.tb p hp h)⟩
theorem Ext.tabs (a : Ext Ps H H1) (t : Tabs Ps H) : Tabs Ps H1 := fun p hp => a.tb p hp (t p hp)
/-- a tracked thing that is no table stays -/
theorem Ext.get (a : Ext Ps H H1) (t : Tabs Ps H) {b : Addr} {o : HO} (h : H b = some o) (n : ∀ ps, o ≠ .tbl ps) : H1 b = some o :=
  a.kp b o h fun hp => by
    obtain ⟨ps, e, _⟩ := t b hp
    rw [h] at e
    exact n ps (Option.some.inj e)
theorem Ext.tabbed {P : Addr} (hP : P ∈ Ps) (h : Tabbed P H H1) : Ext Ps H H1 :=
  ⟨fun b o e n => by rw [h.2 b fun z => n (z ▸ hP)]; exact e, fun p hp e => by
    by_cases z : p = P
    · rw [z]; exact h.1
    · obtain ⟨ps, e1, e2⟩ := e
      exact ⟨ps, by rw [h.2 p z]; exact e1, e2⟩⟩
/-- a new thing -/
theorem Ext.new {b : Addr} {o : HO} (h : H b = none) : Ext Ps H (upd H b o) :=
  ⟨fun c u e _ => by rw [upd_ne (ne_of_none e h)]; exact e, fun p _ e => by
    obtain ⟨ps, e1, e2⟩ := e
    exact ⟨ps, by rw [upd_ne (ne_of_none e1 h)]; exact e1, e2⟩⟩
/-- a thing is written that was not there at first -/
theorem Ext.put {b : Addr} {o : HO} (a : Ext Ps H H1) (h : H b = none) (n : b ∉ Ps) : Ext Ps H (upd H1 b o) :=
  ⟨fun c u e z => by rw [upd_ne (ne_of_none e h)]; exact a.kp c u e z, fun p hp e => by
    obtain ⟨ps, e1, e2⟩ := a.tb p hp e
    exact ⟨ps, by rw [upd_ne fun z => n (by rw [← z]; exact hp)]; exact e1, e2⟩⟩
theorem notPs {b : Addr} (t : Tabs Ps H) (h : H b = none) : b ∉ Ps := fun hp => by
  obtain ⟨ps, e, _⟩ := t b hp
  rw [h] at e
  cases e
theorem notPs' {b : Addr} {o : HO} (t : Tabs Ps H) (h : H b = some o) (n : ∀ ps, o ≠ .tbl ps) : b ∉ Ps := fun hp => by
  obtain ⟨ps, e, _⟩ := t b hp
  rw [h] at e
  exact n ps (Option.some.inj e)
theorem tabs_upd {b : Addr} {o : HO} (t : Tabs Ps H) (n : b ∉ Ps) : Tabs Ps (upd H b o) := fun p hp => by
  obtain ⟨ps, e1, e2⟩ := t p hp
  exact ⟨ps, by rw [upd_ne fun z => n (by rw [← z]; exact hp)]; exact e1, e2⟩
end
/-! ### names -/
def NameOk (x : Str) : Prop := 1 ≤ x.cps.size ∧ x.cps.size ≤ 8 ∧ ∀ c ∈ x.cps.toList, 97 ≤ c ∧ c ≤ 122
/-- a def whose code object is known -/
theorem okC {P : Program} {w : World} {K : PySem.W.Frag} {mg : Str → Option Value} {base : Heap} {k : Nat} {f c : Addr} {fd : FuncData} {x qual : Str} {params : Arguments} {body : List Stmt} {scope : Scope} {dvs : List V} {kws : List (Str × V)} {N ps : List Str} {sp : Sp}
    (F : FunD K x qual params body scope dvs kws f fd) (hc : fd.code = .ref c) (S : FnScope N ps scope) (len : ∀ vs H Q E, sp vs H Q E → vs.length = ps.length)
    (hbody : ∀ (A : Around) (outer : List Env) (s : Shared) (H : Hp) (vs : List V) (Q : VK) (E : XK), Room k (A.deeper (envOfC qual scope s.heap.objs.size f (.ref c))) → sp vs H Q E →
      ∃ t, PSs (cxOf CX0 P w K mg base N qual scope f (.ref c) A outer s H E).nox body t ∧ t { nx := fun _ H' => Q .non H', rt := Q } (start N vs) H) : FnOk P w K mg base CX0 (k + 1) f fd ps sp := by
  obtain ⟨oc, od, dV, kV, doc, pm, an, cdv, ct, osl, rfl, lk, hcd, _, _⟩ := F.ex
  obtain rfl : cdv = .ref c := hc
  refine fn_of lk hcd S len fun A outer s H vs Q E hr hsp => ?_
  obtain ⟨t, h, q⟩ := hbody A outer s H vs Q E hr hsp
  exact ⟨t, h.nox, q⟩
theorem code_at {K : PySem.W.Frag} {x qual : Str} {params : Arguments} {body : List Stmt} {scope : Scope} {dvs : List V} {kws : List (Str × V)} {p : He.Defn} {fd : FuncData} (F : FunD K x qual params body scope dvs kws (He.fAd K p) fd) : fd.code = .ref (He.codeOf K p) := by
  obtain ⟨oc, od, dV, kV, doc, pm, an, cdv, ct, osl, rfl, lk, hcd, _, _⟩ := F.ex
  obtain ⟨c, rfl⟩ := He.codeIn_ref hcd
  rw [He.codeOf_eq lk rfl]
/-- a def that may be called by its name -/
structure Cal (P : Program) (w : World) (K : PySem.W.Frag) (mg : Str → Option Value) (base : Heap) (k : Nat) (x : Str) (sp : Sp) : Prop where
  ex : ∃ (f : Addr) (fd : FuncData) (ps : List Str), FnOk P w K mg base CX0 k f fd ps sp ∧ mg x = some (.ref f) ∧ PySem.W.keepIn K (.ref f) = true ∧ Binds K fd ps []
section
variable {X : Cx} {k j : Nat} {x : Str} {sp : Sp} {p pos : Pos} {e : Expr} {es : List Expr} {t : TA}
theorem pe_c (c : Cal X.prog X.w X.K X.mg X.base k x sp) (hr : Room j X.A) (hk : k ≤ j) (hg : Gl X x) (ha : PA X (e :: es) t)
    (hdb : (x == ("__debug__" : Str)) = false := by decide) (he : starEach (e :: es) X.env = (false, eval e X.env) :: starEach es X.env := by rfl) (hpl : (backTo pos (starEach es X.env)).any (·.1) = false := by rfl) :
    PE X (.Call (.Name x p) (e :: es) [] pos) (tCall sp [] E0 t) := by
  obtain ⟨f, fd, ps, F, hm, kp, b⟩ := c.ex
  exact pe_call F (hr.mono hk) hg hm kp b .nil pass0 ha hdb he hpl
end
end A8
set_option Elab.async false
set_option linter.all false
set_option maxRecDepth 100000
set_option maxHeartbeats 4000000
namespace A8
open PySem PySem.Spec PyProof.Rows L2 AL
open GxR (TabB TabG Tabbed)
abbrev PR : Program := PySem.Challenge.pw_asklines_k09_views_of_lines
def top (i : Nat) : Stmt := PR.main.body.getD i (.Pass ⟨0, 0, 0, 0⟩)
abbrev sIsName : Stmt := top 8
theorem scIsName : FnScope ["value", "letter"] ["value"] (defScope sIsName) := ⟨rfl, rfl, rfl, by decide +kernel, rfl, by decide +kernel, by decide +kernel⟩
def spIsName (Ps : List Addr) : Sp := fun vs H Q _ => ∃ x : Str, vs = [.str x] ∧ NameOk x ∧ Tabs Ps H ∧ ∀ H', Ext Ps H H' → Q (.bl true) H'
theorem lt_one {a b : Nat} : [a] < [b] ↔ a < b := by
  constructor
  · intro h
    cases h with
    | rel h => exact h
    | cons h => cases h
  · exact fun h => .rel h
section
variable {P : Program} {w : World} {K : PySem.W.Frag} {mg : Str → Option Value} {base : Heap} {f c p1 : Addr} {fd : FuncData} {Ps : List Addr}
theorem ok_isName (F : FunD K "is_name" "is_name" (defArgs sIsName) (defBody sIsName) (defScope sIsName) [] [] f fd) (hc : fd.code = .ref c) (TB : TabB base mg c p1) (hp : p1 ∈ Ps)
    (gI : mg "isinstance" = none) (gA : mg "all" = none) (gL : mg "len" = none) (gS : mg "str" = none) {tk : Tok} (gM : mg "MOST_LETTERS" = some (.int 8 tk)) : FnOk P w K mg base CX0 2 f fd ["value"] (spIsName Ps) := by
  refine okC F hc scIsName (fun vs H Q E h => ?_) ?_
  · obtain ⟨x, rfl, _⟩ := h
    rfl
  intro A outer s H vs Q E hr h
  refine ⟨_, pss_one (ps_ret (pe_and (pe_callB call_isi rfl gI (by decide +kernel) (pa_cons (pv 0) (pa_cons (pe_bltn (u := .type "str") (v := .ty "str") rfl gS (by decide +kernel) rfl) pa_nil)))
      (pe_and (pe_chain op_le op_le pe_int (pe_callB call_len_str rfl gL boot_len (pa_cons (pv 0) pa_nil)) (pe_glob (v := .int 8) rfl gM ⟨_, rfl⟩))
        (pe_one (pe_allG (k := 0) (own := [("letter", 1)]) hr rfl scIsName.nd rfl gA TB rfl (gOk_by (N := ["value", "letter"]) (sc := defScope sIsName) (by decide +kernel) rfl (by decide +kernel) rfl) (pi_str (pv 0)) (fun s H C cl code fp A pn => pg_name (i := 1) scIsName.nd rfl (Or.inl rfl))
          (fun s H C cl code fp A pn hr => pe_chain op_le_str op_le_str pe_str (pv 1) pe_str)))))), ?_⟩
  obtain ⟨x, rfl, ⟨n1, n8, nc⟩, ht, hQ⟩ := h
  have hl : x.length = x.cps.size := rfl
  refine ⟨_, rfl, _, _, .type "str", .type "str", true, rfl, .ty "str", .base (.str x), kit_ty (by decide +kernel), true, rfl, ?_⟩
  refine iteT ?_
  refine ⟨_, rfl, x, rfl, by rw [hl, sizeLine_eq]; omega, _, _, rfl, rfl, true, congrArg V.bl (decide_eq_true (by rw [hl]; omega)), ?_⟩
  refine iteT ?_
  refine ⟨_, _, rfl, rfl, true, congrArg V.bl (decide_eq_true (by rw [hl]; omega)), ?_⟩
  refine iteT ?_
  refine ⟨_, rfl, x, rfl, ht _ hp, fun H2 hT => ?_⟩
  have e2 := Ext.tabbed hp hT
  refine ⟨fun i m H' => H' = H2 ∧ i ≤ x.cps.size ∧ m = x.cps.size - i, ⟨_, rfl, Nat.zero_le _, rfl⟩, ⟨?_⟩⟩
  rintro i m H' ⟨rfl, hi, rfl⟩
  by_cases q : i < x.cps.size
  · refine .inr ⟨q, ?_⟩
    rintro v _ ⟨rfl, ch, hc', rfl⟩
    have hm : ch ∈ x.cps.toList := Array.mem_toList_iff.mpr (Array.mem_of_getElem? hc')
    obtain ⟨c1, c2⟩ := nc ch hm
    refine ⟨rfl, _, rfl, _, _, rfl, rfl, true, congrArg (fun z => V.bl (!z)) (decide_eq_false fun z => ?_), ?_⟩
    · exact absurd (lt_one.mp (show [ch] < [97] from z)) (by omega)
    refine iteT ?_
    refine ⟨_, _, rfl, rfl, true, congrArg (fun z => V.bl (!z)) (decide_eq_false fun z => ?_), fun z => Bool.noConfusion z, fun _ => ⟨_, by omega, rfl, by omega, rfl⟩⟩
    exact absurd (lt_one.mp (show [122] < [ch] from z)) (by omega)
  · exact .inl ⟨Nat.le_of_not_lt q, hQ _ e2⟩
end
end A8
set_option Elab.async false
set_option linter.all false
set_option maxRecDepth 100000
set_option maxHeartbeats 4000000
namespace A8
open PySem PySem.Spec PyProof.Rows L2 AL
open GxR (TabB TabG Tabbed)
/-! ### all(.. for x in ..), every element true: by an invariant of the heap -/
section
variable {K : PySem.W.Frag} {a : Addr} {xs : List V} {g : TG} {te : TE} {σ0 : L2.St} {vs : List Nat} {QT QF : Hp → Prop} {H2 : Hp} {o : Obj} {kvs : List (Key × V)} {d : Addr}
theorem all_list (I : Hp → Prop) (h0 : I H2) (hl : ∀ H, I H → SqL K H a xs)
    (hs : ∀ (i : Nat) (x : V) (H : Hp) (Nx : VK), xs[i]? = some x → I H → (∀ H3, I H3 → Nx (.bl true) H3) → g x σ0 H fun σ2 H2 => wipe σ2 vs = σ0 ∧ te σ2 H2 Nx) (he : ∀ H, I H → QT H) :
    ∃ W : Nat → Nat → Hp → Prop, (∃ m, W 0 m H2) ∧ W1 K (Itl K a) g te σ0 vs false QT QF W := by
  refine ⟨fun i m H => I H ∧ i ≤ xs.length ∧ m = xs.length - i, ⟨_, h0, Nat.zero_le _, rfl⟩, ⟨?_⟩⟩
  rintro i m H ⟨hI, hi, rfl⟩
  by_cases q : i < xs.length
  · refine .inr ⟨⟨xs, xs[i], hl H hI, List.getElem?_eq_getElem q⟩, ?_⟩
    rintro x H' ⟨rfl, hx⟩
    exact hs i x _ _ (hx xs (hl _ hI)) hI fun H3 h3 => ⟨true, rfl, fun z => Bool.noConfusion z, fun _ => ⟨_, by omega, h3, q, rfl⟩⟩
  · exact .inl ⟨⟨xs, hl H hI, Nat.le_of_not_lt q⟩, he H hI⟩
theorem all_keys (I : Hp → Prop) (h0 : I H2) (hl : ∀ H, I H → H d = some (.frz o (.dK kvs)))
    (hs : ∀ (i : Nat) (k : Key) (v : V) (H : Hp) (Nx : VK), kvs[i]? = some (k, v) → I H → (∀ H3, I H3 → Nx (.bl true) H3) → g (kV k) σ0 H fun σ2 H2 => wipe σ2 vs = σ0 ∧ te σ2 H2 Nx) (he : ∀ H, I H → QT H) :
    ∃ W : Nat → Nat → Hp → Prop, (∃ m, W 0 m H2) ∧ W1 K (Itk d o kvs) g te σ0 vs false QT QF W := by
  refine ⟨fun i m H => I H ∧ i ≤ kvs.length ∧ m = kvs.length - i, ⟨_, h0, Nat.zero_le _, rfl⟩, ⟨?_⟩⟩
  rintro i m H ⟨hI, hi, rfl⟩
  by_cases q : i < kvs.length
  · refine .inr ⟨⟨hl H hI, q⟩, ?_⟩
    rintro x H' ⟨rfl, k, v, hx, rfl⟩
    exact hs i k v _ _ hx hI fun H3 h3 => ⟨true, rfl, fun z => Bool.noConfusion z, fun _ => ⟨_, by omega, h3, q, rfl⟩⟩
  · exact .inl ⟨⟨hl H hI, Nat.le_of_not_lt q⟩, he H hI⟩
end
section
variable {K : PySem.W.Frag} {g g1 : TG} {te ta : TE} {σ0 : L2.St} {vs0 vs1 : List Nat} {QT QF : Hp → Prop} {H2 : Hp} {o : Obj} {kvs : List (Key × V)} {d : Addr}
/-- all(e for k in d for y in d[k]): the heap stays -/
theorem all_keys2 (h0 : H2 d = some (.frz o (.dK kvs))) (L : Nat → Addr) (xs : Nat → List V) (m : Nat) (hm : ∀ i, (xs i).length < m) (hL : ∀ i k v, kvs[i]? = some (k, v) → SqL K H2 (L i) (xs i))
    (hs : ∀ (i : Nat) (k : Key) (v : V), kvs[i]? = some (k, v) → ∀ R : L2.St → Hp → Prop,
      (∀ σ1, wipe σ1 vs0 = σ0 → (∀ R1 : It → Hp → Prop, (∃ _u : Unit, R1 (Itl K (L i)) H2) → iList K ta σ1 H2 R1) →
        (∀ (j : Nat) (y : V) (Nx : VK), (xs i)[j]? = some y → Nx (.bl true) H2 → g1 y σ1 H2 fun σ2 H3 => wipe σ2 vs1 = σ1 ∧ te σ2 H3 Nx) → R σ1 H2) → g (kV k) σ0 H2 R) (he : QT H2) :
    ∃ W : Nat → Nat → Hp → Prop, (∃ m, W 0 m H2) ∧ W2 K (Itk d o kvs) g (iList K ta) g1 te σ0 vs0 vs1 false QT QF W := by
  refine ⟨fun i n H => H = H2 ∧ i ≤ kvs.length ∧ n = (kvs.length - i) * (m + 1) + m, ⟨_, rfl, Nat.zero_le _, rfl⟩, ⟨?_⟩⟩
  rintro i n H ⟨rfl, hi, rfl⟩
  by_cases q : i < kvs.length
  · refine .inr ⟨⟨h0, q⟩, ?_⟩
    rintro x H' ⟨rfl, k, v, hx, rfl⟩
    have e1 : (kvs.length - i) * (m + 1) = (kvs.length - (i + 1)) * (m + 1) + (m + 1) := by
      have : kvs.length - i = (kvs.length - (i + 1)) + 1 := by omega
      rw [this, Nat.add_mul, Nat.one_mul]
    have hmi := hm i
    refine hs i k v hx _ fun σ1 w1 hi1 hte => ⟨w1, hi1 _ ⟨(), ?_⟩⟩
    have hl := hL i k v hx
    refine ⟨fun j n' H => H = H' ∧ j ≤ (xs i).length ∧ n' = (kvs.length - (i + 1)) * (m + 1) + m + 1 + ((xs i).length - j), ⟨_, ?_, rfl, Nat.zero_le _, rfl⟩, ⟨?_⟩⟩
    · omega
    rintro j n' H hn ⟨rfl, hj, rfl⟩
    by_cases q2 : j < (xs i).length
    · refine .inr ⟨⟨xs i, (xs i)[j], hl, List.getElem?_eq_getElem q2⟩, ?_⟩
      rintro y H3 ⟨rfl, hy⟩
      exact hte j y _ (hy _ hl) ⟨true, rfl, fun z => Bool.noConfusion z, fun _ => ⟨_, by omega, rfl, q2, rfl⟩⟩
    · exact .inl ⟨⟨xs i, hl, Nat.le_of_not_lt q2⟩, (kvs.length - (i + 1)) * (m + 1) + m, by omega, by omega, rfl, q, rfl⟩
  · exact .inl ⟨⟨h0, Nat.le_of_not_lt q⟩, he⟩
end
section
variable {J : It} {n : Nat} {G : Hp → Prop} {Y : Nat → Hp → V → Hp → Prop}
/-- {k: v for x in ..}: Pv by the turn and the heap (the new dict at D within) -/
theorem dc_it (w : Walk J n G Y) {g : TG} {tt : TT} {tk tv : TE} {vs : List Nat} {σ : L2.St} {H1 : Hp} {D : Addr} {Qd : Hp → Prop} (Pv : Nat → Hp → Prop) (h0 : Pv 0 (upd H1 D (.dK []))) (hG : ∀ i H, i ≤ n → Pv i H → G H)
    (hs : ∀ i x H H', i < n → Pv i H → Y i H x H' → g x (wipe σ vs) H' fun σ2 H2 => wipe σ2 vs = wipe σ vs ∧ tt σ2 H2 fun b H3 => if b = true then tk σ2 H3 fun y H4 => tv σ2 H4 fun z H5 => ∃ kvs k, y = kV k ∧ H5 D = some (.dK kvs) ∧
      kvs.length < sizeLine ∧ Pv (i + 1) (upd H5 D (.dK (putK kvs k z))) else Pv (i + 1) H3) (hd : ∀ H, Pv n H → Qd H) :
    ∃ W : Nat → Nat → Hp → Prop, (∃ m, W 0 m (upd H1 D (.dK []))) ∧ ∀ i m H, W i m H → (J.stop i H ∧ Qd H) ∨ (J.go i H ∧ ∃ Nx : Hp → Prop, (∀ H', Nx H' → ∃ m', m' < m ∧ W (i + 1) m' H') ∧
      ∀ x H', J.yld i H x H' → g x (wipe σ vs) H' fun σ2 H2 => wipe σ2 vs = wipe σ vs ∧ tt σ2 H2 fun b H3 => if b = true then tk σ2 H3 fun y H4 => tv σ2 H4 fun z H5 => ∃ kvs k, y = kV k ∧ H5 D = some (.dK kvs) ∧
        kvs.length < sizeLine ∧ Nx (upd H5 D (.dK (putK kvs k z))) else Nx H3) := by
  refine ⟨fun i m H => m + i = n ∧ Pv i H, ⟨n, Nat.add_zero n, h0⟩, ?_⟩
  rintro i m H ⟨e, p⟩
  have q := hG i H (by omega) p
  cases m with
  | zero =>
    obtain rfl : i = n := by omega
    exact .inl ⟨w.stops H q, hd H p⟩
  | succ m => exact .inr ⟨w.goes i H (by omega) q, Pv (i + 1), fun H' p' => ⟨m, Nat.lt_succ_self m, by omega, p'⟩, fun x H' y => hs i x H H' (by omega) p (w.yields i H x H' (by omega) q y)⟩
end
/-- x = e; ..: by what is known of e's value -/
theorem seq_asg {te : TE} {g : TG} {u : TS} {D : Ends} {σ : L2.St} {H : Hp} (R : V → Hp → Prop) (h1 : ∀ Q : VK, (∀ v H1, R v H1 → Q v H1) → te σ H Q) (h2 : ∀ v H1, R v H1 → g v σ H1 (u D)) : tSeq (tAsg te g) u D σ H := h1 _ h2
end A8
set_option Elab.async false
set_option linter.all false
set_option maxRecDepth 100000
set_option maxHeartbeats 4000000
namespace A8
open PySem PySem.Spec PyProof.Rows L2 AL
/-! ### lists of texts -/
theorem flat_strs : ∀ xs : List Str, (xs.map V.str).all flatV = true
  | [] => rfl
  | x :: xs => by
    rw [List.map_cons, List.all_cons, flat_strs xs]
    rfl
theorem inV_strs {x : Str} : ∀ {xs : List Str}, x ∉ xs → inV (.str x) (xs.map V.str) = false
  | [], _ => rfl
  | y :: xs, h => by
    have e : eqV (.str y) (.str x) = false := beq_eq_false_iff_ne.mpr fun z => h (by rw [z]; exact List.mem_cons_self)
    show (eqV (.str y) (.str x) || inV (.str x) (xs.map V.str)) = false
    rw [e, inV_strs fun z => h (List.mem_cons_of_mem _ z)]
    rfl
theorem inV_in {x : Str} : ∀ {xs : List Str}, x ∈ xs → inV (.str x) (xs.map V.str) = true
  | y :: xs, h => by
    show (eqV (.str y) (.str x) || inV (.str x) (xs.map V.str)) = true
    rcases List.mem_cons.mp h with rfl | h
    · have e : eqV (.str x) (.str x) = true := beq_self_eq_true x
      rw [e]
      rfl
    · rw [inV_in h, Bool.or_true]
theorem sortedS_pw : ∀ {l : List Str}, sortedS l = true → l.Pairwise fun a b => ¬ sLt b a
  | [], _ => .nil
  | [a], _ => by simp
  | a :: b :: r, h => by
    have h' : (!ltCps b.cps.toList a.cps.toList && sortedS (b :: r)) = true := h
    rw [Bool.and_eq_true, Bool.not_eq_true'] at h'
    have ih := sortedS_pw h'.2
    have hab : ¬ sLt b a := fun z => by
      rw [ltCps_eq] at h'
      exact absurd z (of_decide_eq_false h'.1)
    refine List.pairwise_cons.mpr ⟨fun c hc => ?_, ih⟩
    rcases List.mem_cons.mp hc with rfl | hc
    · exact hab
    · exact sLt_trans' hab (List.rel_of_pairwise_cons ih hc)
theorem sorted_eq : ∀ {xs ys : List Str}, sortedS ys = true → ys.Nodup → sortedS xs = true → xs.Nodup → (∀ k, k ∈ ys ↔ k ∈ xs) → ys = xs := fun h1 h2 h3 h4 h5 => go (sortedS_pw h1) h2 (sortedS_pw h3) h4 h5
where go : ∀ {xs ys : List Str}, ys.Pairwise (fun a b => ¬ sLt b a) → ys.Nodup → xs.Pairwise (fun a b => ¬ sLt b a) → xs.Nodup → (∀ k, k ∈ ys ↔ k ∈ xs) → ys = xs
  | [], [], _, _, _, _, _ => rfl
  | x :: xs, [], _, _, _, _, e => absurd ((e x).mpr List.mem_cons_self) List.not_mem_nil
  | [], y :: ys, _, _, _, _, e => absurd ((e y).mp List.mem_cons_self) List.not_mem_nil
  | x :: xs, y :: ys, hy, ny, hx, nx, e => by
    have exy : y = x := by
      rcases List.mem_cons.mp ((e y).mp List.mem_cons_self) with h | h
      · exact h
      rcases List.mem_cons.mp ((e x).mpr List.mem_cons_self) with h' | h'
      · exact h'.symm
      · exact sLt_tri (List.rel_of_pairwise_cons hy h') (List.rel_of_pairwise_cons hx h)
    subst exy
    have n1 := List.nodup_cons.mp ny
    have n2 := List.nodup_cons.mp nx
    rw [go (List.Pairwise.of_cons hy) n1.2 (List.Pairwise.of_cons hx) n2.2 fun k => ⟨fun h => ?_, fun h => ?_⟩]
    · rcases List.mem_cons.mp ((e k).mp (List.mem_cons_of_mem _ h)) with z | z
      · exact (n1.1 (by rw [← z]; exact h)).elim
      · exact z
    · rcases List.mem_cons.mp ((e k).mpr (List.mem_cons_of_mem _ h)) with z | z
      · exact (n2.1 (by rw [← z]; exact h)).elim
      · exact z
theorem sortedS_of : ∀ {l : List Str}, l.Pairwise (fun a b => ¬ sLt b a) → sortedS l = true := fun {l} h => sortedS_of_pairwise l (h.imp fun {a b} q => by
  rw [ltCps_eq]
  exact decide_eq_false q)
/-! ### .. as data -/
def Ascii (x : Str) : Prop := ∀ c ∈ x.cps.toList, c < 0x110000
theorem strOk_of {x : Str} (h : Ascii x) : PyData.strOk x = true := by
  unfold PyData.strOk
  rw [Array.all_eq_true_iff_forall_mem]
  exact fun c hc => decide_eq_true (h c (Array.mem_toList_iff.mpr hc))
theorem NameOk.asc {x : Str} (h : NameOk x) : Ascii x := fun c hc => by
  have := h.2.2 c hc
  omega
theorem canLay_strs : ∀ {xs : List Str}, (∀ x ∈ xs, Ascii x) → PyData.canLayAll0 (xs.map PyData.str) = true
  | [], _ => rfl
  | x :: xs, h => by
    show (PyData.strOk x && PyData.canLayAll0 (xs.map PyData.str)) = true
    rw [strOk_of (h x List.mem_cons_self), canLay_strs fun y hy => h y (List.mem_cons_of_mem _ hy)]
    rfl
theorem depth_strs : ∀ xs : List Str, PyData.depthAll (xs.map PyData.str) = 0
  | [] => rfl
  | x :: xs => by
    show max (PyData.depth (.str x)) (PyData.depthAll (xs.map PyData.str)) = 0
    rw [depth_strs xs]
    rfl
theorem shaped_strs {xs : List Str} (h : ∀ x ∈ xs, Ascii x) : SeqAt.shaped (.list (xs.map .str)) = true := by
  have e : PyData.canLay0 (.list (xs.map .str)) = true := canLay_strs h
  have e2 : PyData.depth (.list (xs.map .str)) = 1 := congrArg (· + 1) (depth_strs xs)
  show (PyData.canLay0 (.list (xs.map .str)) && decide (PyData.depth (.list (xs.map .str)) ≤ 64)) = true
  rw [e, e2]
  rfl
end A8
set_option Elab.async false
set_option linter.all false
set_option maxRecDepth 100000
set_option maxHeartbeats 4000000
namespace A8
open PySem PySem.Spec PyProof.Rows L2 AL
open GxR (TabB TabG Tabbed)
/-! ### trees -/
abbrev Row := Str × Addr × List Str
def kvsOf (t : List Row) : List (Key × V) := t.map fun r => (Sum.inr r.1, .ref r.2.1)
def RowsAt (H : Hp) (t : List Row) : Prop := ∀ r ∈ t, H r.2.1 = some (.lst (r.2.2.map V.str))
structure TreeAt (H : Hp) (d : Addr) (t : List Row) : Prop where
  d : Rd H d (.dK (kvsOf t))
  rows : RowsAt H t
structure OkTree (t : List Row) : Prop where
  n1 : 1 ≤ t.length
  n40 : t.length ≤ 40
  names : ∀ r ∈ t, NameOk r.1
  nodup : (t.map (·.1)).Nodup
  nbs : ∀ r ∈ t, ∀ y ∈ r.2.2, ∃ s ∈ t, s.1 = y
  self : ∀ r ∈ t, r.1 ∉ r.2.2
  asc : ∀ r ∈ t, sortedS r.2.2 = true ∧ r.2.2.Nodup
  sym : ∀ r ∈ t, ∀ s ∈ t, s.1 ∈ r.2.2 → r.1 ∈ s.2.2
  ends : (t.map fun r => r.2.2.length).sum + 2 = 2 * t.length
  conn : ∀ S : Str → Prop, (∃ r ∈ t, S r.1) → (∀ r ∈ t, S r.1 → ∀ y ∈ r.2.2, S y) → ∀ r ∈ t, S r.1
section
variable {Ps : List Addr} {H H1 : Hp} {d : Addr} {t : List Row}
theorem Ext.rows (a : Ext Ps H H1) (ht : Tabs Ps H) (h : RowsAt H t) : RowsAt H1 t := fun r hr => a.get ht (h r hr) fun _ z => by cases z
theorem Ext.rd (a : Ext Ps H H1) (ht : Tabs Ps H) {u : HO} (h : Rd H d u) (n : ∀ ps, u ≠ .tbl ps) : Rd H1 d u := by
  rcases h with h | ⟨o, h⟩
  · exact .inl (a.get ht h n)
  · exact .inr ⟨o, a.get ht h fun _ z => by cases z⟩
theorem Ext.tree (a : Ext Ps H H1) (ht : Tabs Ps H) (h : TreeAt H d t) : TreeAt H1 d t := ⟨a.rd ht h.d (fun _ z => HO.noConfusion z), a.rows ht h.rows⟩
/-- row lists are no dicts: the tree's dict may be locked -/
theorem rows_lock {u : HO} (hd : H d = some (.dK (kvsOf t))) (h : RowsAt H t) : RowsAt (upd H d u) t := fun r hr => by
  rw [upd_ne fun z => ?_]
  · exact h r hr
  · have := h r hr
    rw [z, hd] at this
    cases this
theorem valV_row : ∀ {t : List Row} {r : Row}, r ∈ t → (t.map (·.1)).Nodup → valV (kvsOf t) (Sum.inr r.1) = some (.ref r.2.1)
  | a :: t, r, h, nd => by
    rw [List.map_cons, List.nodup_cons] at nd
    rcases List.mem_cons.mp h with rfl | h
    · exact valV_pos rfl
    · have ne : ¬ (Sum.inr a.1 : Key) = Sum.inr r.1 := fun z => nd.1 (by
        injection z with z
        rw [z]
        exact List.mem_map.mpr ⟨r, h, rfl⟩)
      exact (valV_neg (p := (Sum.inr a.1, V.ref a.2.1)) ne).trans (valV_row h nd.2)
theorem OkTree.at_ (ok : OkTree t) {r : Row} (h : r ∈ t) : valV (kvsOf t) (Sum.inr r.1) = some (.ref r.2.1) := valV_row h ok.nodup
theorem OkTree.one (ok : OkTree t) {r s : Row} (h : r ∈ t) (h' : s ∈ t) (e : r.1 = s.1) : r = s := by
  have := ok.nodup
  exact inj_of_nodup this h h' e
where inj_of_nodup : ∀ {t : List Row}, (t.map (·.1)).Nodup → ∀ {r s : Row}, r ∈ t → s ∈ t → r.1 = s.1 → r = s
  | a :: t, nd, r, s, h, h', e => by
    rw [List.map_cons, List.nodup_cons] at nd
    rcases List.mem_cons.mp h with h1 | h1 <;> rcases List.mem_cons.mp h' with h2 | h2
    · rw [h1, h2]
    · exact (nd.1 (by rw [← h1, e]; exact List.mem_map.mpr ⟨s, h2, rfl⟩)).elim
    · exact (nd.1 (by rw [← h2, ← e]; exact List.mem_map.mpr ⟨r, h1, rfl⟩)).elim
    · exact inj_of_nodup nd.2 h1 h2 e
theorem TreeAt.get (T : TreeAt H d t) (ok : OkTree t) {r : Row} (h : r ∈ t) : DGet H d (.str r.1) (some (.ref r.2.1)) := .inl ⟨_, Sum.inr r.1, T.d, rfl, (ok.at_ h).symm⟩
theorem TreeAt.row (T : TreeAt H d t) {r : Row} (h : r ∈ t) (K : PySem.W.Frag) : SqL K H r.2.1 (r.2.2.map V.str) := .inl (.inl (T.rows r h))
theorem kvsOf_len : (kvsOf t).length = t.length := List.length_map _
theorem kvsOf_at {i : Nat} {k : Key} {v : V} (h : (kvsOf t)[i]? = some (k, v)) : ∃ r, t[i]? = some r ∧ r ∈ t ∧ k = Sum.inr r.1 ∧ v = .ref r.2.1 := by
  unfold kvsOf at h
  rw [List.getElem?_map] at h
  cases q : t[i]? with
  | none => rw [q] at h; cases h
  | some r =>
    rw [q] at h
    injection h with h
    injection h with h1 h2
    exact ⟨r, rfl, List.mem_of_getElem? q, h1.symm, h2.symm⟩
theorem OkTree.asciis (ok : OkTree t) {r : Row} (h : r ∈ t) : ∀ y ∈ r.2.2, Ascii y := fun y hy => by
  obtain ⟨s, hs, e⟩ := ok.nbs r h y hy
  rw [← e]
  exact (ok.names s hs).asc
theorem OkTree.deg (ok : OkTree t) {r : Row} (h : r ∈ t) : r.2.2.length ≤ 40 := by
  have sub : r.2.2.length ≤ (t.map (·.1)).length := nodup_sub (ok.asc r h).2 fun y hy => by
    obtain ⟨s, hs, e⟩ := ok.nbs r h y hy
    exact List.mem_map.mpr ⟨s, hs, e⟩
  rw [List.length_map] at sub
  exact Nat.le_trans sub ok.n40
where nodup_sub : ∀ {xs ys : List Str}, xs.Nodup → (∀ y ∈ xs, y ∈ ys) → xs.length ≤ ys.length
  | [], _, _, _ => Nat.zero_le _
  | x :: xs, ys, nd, h => by
    have hx := h x List.mem_cons_self
    have nd' := List.nodup_cons.mp nd
    have l := nodup_sub (xs := xs) (ys := ys.erase x) nd'.2 fun y hy => (List.mem_erase_of_ne fun z => nd'.1 (by rw [← z]; exact hy)).mpr (h y (List.mem_cons_of_mem _ hy))
    rw [List.length_erase_of_mem hx] at l
    have := List.length_pos_of_mem hx
    simp only [List.length_cons]
    omega
end
/-! ### texts compared -/
theorem dpAll_strs {K : PySem.W.Frag} {H : Hp} : ∀ xs : List Str, DpAll K H (xs.map V.str) (xs.map PyData.str)
  | [] => .nil
  | x :: xs => .cons (.str x) (dpAll_strs xs)
theorem eqvAll_strs : ∀ xs : List Str, PyData.eqvAll (xs.map PyData.str) (xs.map PyData.str) = true
  | [] => rfl
  | x :: xs => by
    have e : PyData.eqv (.str x) (.str x) = true := beq_self_eq_true x
    show (PyData.eqv (.str x) (.str x) && PyData.eqvAll (xs.map PyData.str) (xs.map PyData.str)) = true
    rw [e, eqvAll_strs xs]
    rfl
/-! ### is_node -/
abbrev sIsNode : Stmt := top 12
theorem scIsNode : FnScope ["tree", "value"] ["tree", "value"] (defScope sIsNode) := ⟨rfl, rfl, rfl, by decide +kernel, rfl, by decide +kernel, by decide +kernel⟩
def spIsNode : Sp := fun vs H Q _ => ∃ (d : Addr) (x : Str) (kvs : List (Key × V)), vs = [.ref d, .str x] ∧ Rd H d (.dK kvs) ∧ Q (.bl (valV kvs (Sum.inr x)).isSome) H
section
variable {P : Program} {w : World} {K : PySem.W.Frag} {mg : Str → Option Value} {base : Heap} {f c p1 : Addr} {fd : FuncData} {Ps : List Addr}
theorem ok_isNode (F : FunD K "is_node" "is_node" (defArgs sIsNode) (defBody sIsNode) (defScope sIsNode) [] [] f fd) (gI : mg "isinstance" = none) (gS : mg "str" = none) : FnOk P w K mg base CX0 1 f fd ["tree", "value"] spIsNode := by
  refine F.ok scIsNode (fun vs H Q E h => ?_) ?_
  · obtain ⟨d, x, kvs, rfl, _⟩ := h
    rfl
  intro cdv A outer s H vs Q E hr h
  refine ⟨_, PSs.nox (pss_one (ps_ret (pe_and (pe_callB call_isi rfl gI (by decide +kernel) (pa_cons (pv 1) (pa_cons (pe_bltn (u := .type "str") (v := .ty "str") rfl gS (by decide +kernel) rfl) pa_nil)))
      (pe_one (pe_cmp (pc_din (hu_of hr) (pv 1) (pv 0))))))), ?_⟩
  obtain ⟨d, x, kvs, rfl, hd, hQ⟩ := h
  refine ⟨_, rfl, _, _, .type "str", .type "str", true, rfl, .ty "str", .base (.str x), kit_ty (by decide +kernel), true, rfl, iteT ?_⟩
  exact ⟨_, rfl, _, rfl, d, _, rfl, .inl ⟨kvs, Sum.inr x, hd, rfl, rfl⟩, hQ⟩
/-! ### _has_proper_list -/
abbrev sHasList : Stmt := top 10
theorem scHasList : FnScope ["graph", "node", "row", "other"] ["graph", "node"] (defScope sHasList) := ⟨rfl, rfl, rfl, by decide +kernel, rfl, by decide +kernel, by decide +kernel⟩
def spHasList (Ps : List Addr) : Sp := fun vs H Q _ => ∃ (d : Addr) (t : List Row) (r : Row), vs = [.ref d, .str r.1] ∧ TreeAt H d t ∧ OkTree t ∧ r ∈ t ∧ Tabs Ps H ∧ ∀ H', Ext Ps H H' → Q (.bl true) H'
theorem ok_hasList (F : FunD K "_has_proper_list" "_has_proper_list" (defArgs sHasList) (defBody sHasList) (defScope sHasList) [] [] f fd) (hc : fd.code = .ref c) (TB : TabB base mg c p1) (hp : p1 ∈ Ps) (cN : Cal P w K mg base 1 "is_node" spIsNode)
    (gI : mg "isinstance" = none) (gA : mg "all" = none) (gL : mg "list" = none) (gS : mg "sorted" = none) (gT : mg "set" = none) : FnOk P w K mg base CX0 3 f fd ["graph", "node"] (spHasList Ps) := by
  refine okC F hc scHasList (fun vs H Q E h => ?_) ?_
  · obtain ⟨d, t, r, rfl, _⟩ := h
    rfl
  intro A outer s H vs Q E hr h
  refine ⟨_, pss_cons (ps_set (i := 2) scHasList.nd rfl (Or.inl rfl) (pe_dget (hu_of hr) (pv 0) (pv 1) (fun _ _ => rfl)))
    (pss_one (ps_ret (pe_and (pe_callB call_isi rfl gI (by decide +kernel) (pa_cons (pv 2) (pa_cons (pe_bltn (u := .type "list") (v := .ty "list") rfl gL (by decide +kernel) rfl) pa_nil)))
      (pe_and (pe_allG (k := 1) (own := [("other", 3)]) hr rfl scHasList.nd rfl gA TB rfl (gOk_by (N := ["graph", "node", "row", "other"]) (sc := defScope sHasList) (by decide +kernel) rfl (by decide +kernel) rfl) (pi_list (pv 2)) (fun s H C cl code fp A pn => pg_name (i := 3) scHasList.nd rfl (Or.inl rfl))
          (fun s H C cl code fp A pn hr => pe_c cN hr (by decide) rfl (pa_cons (pv 0) (pa_cons (pv 3) pa_nil))))
        (pe_and (pe_cmpR op_notIn_seq (pv 1) (pv 2) rfl)
          (pe_one (pe_cmpR (op_eqD hr.units) (pv 2) (pe_sortSet rfl rfl gS rfl gT (pv 2)) (nomark _)))))))), ?_⟩
  obtain ⟨d, t, r, rfl, T, ok, hr', ht, hQ⟩ := h
  refine ⟨_, rfl, _, rfl, d, _, rfl, T.get ok hr', ?_⟩
  refine ⟨_, rfl, _, _, .type "list", .type "list", true, rfl, .ty "list", .base (.lst (T.rows r hr')), kit_ty (by decide +kernel), true, rfl, iteT ?_⟩
  refine ⟨_, rfl, r.2.1, rfl, ⟨_, T.row hr' K⟩, ht _ hp, fun H2 hT => ?_⟩
  have e2 := Ext.tabbed hp hT
  have T2 : TreeAt H2 d t := e2.tree ht T
  refine all_list (I := fun H' => H' = H2) rfl (fun _ z => z ▸ T2.row hr' K) (fun i x H3 Nx hx e hN => ?_) fun H3 e => ?_
  · subst e
    rw [List.getElem?_map] at hx
    cases q : r.2.2[i]? with
    | none => rw [q] at hx; cases hx
    | some y =>
      rw [q] at hx
      cases hx
      obtain ⟨s', hs', es⟩ := ok.nbs r hr' y (List.mem_of_getElem? q)
      refine ⟨rfl, _, rfl, _, rfl, d, y, kvsOf t, rfl, T2.d, ?_⟩
      rw [← es, ok.at_ hs']
      exact hN _ rfl
  · subst e
    refine ⟨true, rfl, iteT ?_⟩
    refine ⟨_, rfl, _, rfl, r.2.1, _, rfl, .inl (T2.row hr' K), rfl, flat_strs _, ?_⟩
    refine ⟨true, ?_, iteT ?_⟩
    · rw [inV_strs (ok.self r hr')]
      rfl
    refine ⟨_, rfl, _, rfl, r.2.1, r.2.2, rfl, T2.row hr' K, Nat.lt_of_le_of_lt (ok.deg hr') (by decide), fun ys p h1 h2 h3 h4 => ?_⟩
    have ey : ys = r.2.2 := sorted_eq h1 h2 (ok.asc r hr').1 (ok.asc r hr').2 h3
    subst ey
    have e3 : Ext Ps _ (upd _ p (.lst (r.2.2.map V.str))) := Ext.new h4
    refine ⟨_, _, .lst ((e3.tree (e2.tabs ht) T2).row hr' K) (dpAll_strs _), .lst (.inl (.inl upd_same)) (dpAll_strs _), ?_, ?_, ?_⟩
    · exact shaped_strs (ok.asciis hr')
    · exact shaped_strs (ok.asciis hr')
    · show Q (.bl (PyData.eqvAll (r.2.2.map PyData.str) (r.2.2.map PyData.str))) _
      rw [eqvAll_strs]
      exact hQ _ (e2.trans e3)
end
end A8
set_option Elab.async false
set_option linter.all false
set_option maxRecDepth 100000
set_option maxHeartbeats 4000000
namespace A8
open PySem PySem.Spec PyProof.Rows L2 AL
open GxR (TabB TabG Tabbed)
abbrev sSteps : Stmt := top 15
theorem scSteps : FnScope ["tree", "target", "steps", "waiting", "node", "neighbour"] ["tree", "target"] (defScope sSteps) := ⟨rfl, rfl, rfl, by decide +kernel, rfl, by decide +kernel, by decide +kernel⟩
def kvS (ps : List (Str × Str)) : List (Key × V) := ps.map fun q => (Sum.inr q.1, .str q.2)
structure StepsOk (t : List Row) (x : Str) (ps : List (Str × Str)) : Prop where
  first : ps[0]? = some (x, x)
  nodup : (ps.map (·.1)).Nodup
  step : ∀ i y z, 0 < i → ps[i]? = some (y, z) → (∃ j z', j < i ∧ ps[j]? = some (z, z')) ∧ ∃ r ∈ t, r.1 = z ∧ y ∈ r.2.2
  all : ∀ r ∈ t, r.1 ∈ ps.map (·.1)
  nodes : ∀ y ∈ ps.map (·.1), ∃ r ∈ t, r.1 = y
def spSteps : Sp := fun vs H Q _ => ∃ (d : Addr) (t : List Row) (x : Row), vs = [.ref d, .str x.1] ∧ TreeAt H d t ∧ OkTree t ∧ x ∈ t ∧
  ∀ H' p ps, H p = none → H' p = some (.dK (kvS ps)) → StepsOk t x.1 ps → (∀ b o, H b = some o → H' b = some o) → Q (.ref p) H'
/-! ### the search, without the heap -/
abbrev keysS (ps : List (Str × Str)) : List Str := ps.map (·.1)
theorem kvS_get : ∀ (ps : List (Str × Str)) (y : Str), (valV (kvS ps) (Sum.inr y)).isSome = decide (y ∈ keysS ps)
  | [], y => by simp [kvS, valV_nil]
  | q :: ps, y => by
    by_cases e : (Sum.inr q.1 : Key) = Sum.inr y
    · have e2 : (valV (kvS (q :: ps)) (Sum.inr y)) = some (.str q.2) := valV_pos (p := (Sum.inr q.1, V.str q.2)) e
      rw [e2]
      injection e with e
      exact (decide_eq_true (by rw [← e]; exact List.mem_cons_self)).symm
    · have e2 : (valV (kvS (q :: ps)) (Sum.inr y)) = valV (kvS ps) (Sum.inr y) := valV_neg (p := (Sum.inr q.1, V.str q.2)) e
      rw [e2, kvS_get ps y]
      have ne : ¬ y = q.1 := fun z => e (by rw [z])
      exact decide_eq_decide.mpr ⟨fun h => List.mem_cons_of_mem _ h, fun h => (List.mem_cons.mp h).elim (fun z => (ne z).elim) id⟩
theorem kvS_put {ps : List (Str × Str)} {y : Str} (z : Str) (h : y ∉ keysS ps) : putK (kvS ps) (Sum.inr y) (.str z) = kvS (ps ++ [(y, z)]) := by
  unfold putK
  rw [valV_any, kvS_get, decide_eq_false h, if_neg Bool.false_ne_true]
  unfold kvS
  rw [List.map_append]
  rfl
structure Part (t : List Row) (x : Str) (ps : List (Str × Str)) : Prop where
  first : ps[0]? = some (x, x)
  nodup : (keysS ps).Nodup
  step : ∀ i y z, 0 < i → ps[i]? = some (y, z) → (∃ j z', j < i ∧ ps[j]? = some (z, z')) ∧ ∃ r ∈ t, r.1 = z ∧ y ∈ r.2.2
  nodes : ∀ y ∈ keysS ps, ∃ r ∈ t, r.1 = y
theorem Part.len {t : List Row} {x : Str} {ps : List (Str × Str)} (h : Part t x ps) : ps.length ≤ t.length := by
  have := OkTree.deg.nodup_sub (ys := t.map (·.1)) h.nodup fun y hy => let ⟨r, hr, e⟩ := h.nodes y hy; List.mem_map.mpr ⟨r, hr, e⟩
  rw [List.length_map, List.length_map] at this
  exact this
theorem Part.start {t : List Row} {x : Row} (h : x ∈ t) : Part t x.1 [(x.1, x.1)] where
  first := rfl
  nodup := by simp
  step := fun i y z hi e => by
    have : i < 1 := (List.getElem?_eq_some_iff.mp e).1
    omega
  nodes := fun y hy => ⟨x, h, (List.mem_singleton.mp hy).symm⟩
theorem Part.add {t : List Row} {x : Str} {ps : List (Str × Str)} (h : Part t x ps) (ok : OkTree t) {r : Row} (hr : r ∈ t) (hk : r.1 ∈ keysS ps) {y : Str} (hy : y ∈ r.2.2) (hn : y ∉ keysS ps) : Part t x (ps ++ [(y, r.1)]) where
  first := by
    have l0 : 0 < ps.length := (List.getElem?_eq_some_iff.mp h.first).1
    rw [List.getElem?_append_left l0]
    exact h.first
  nodup := by
    show ((ps ++ [(y, r.1)]).map (·.1)).Nodup
    rw [List.map_append]
    exact List.nodup_append.mpr ⟨h.nodup, by simp, fun a ha b hb z => hn (by rw [← show b = y from List.mem_singleton.mp hb, ← z]; exact ha)⟩
  step := fun i a z hi e => by
    by_cases q : i < ps.length
    · rw [List.getElem?_append_left q] at e
      obtain ⟨⟨j, z', hj, e'⟩, k⟩ := h.step i a z hi e
      exact ⟨⟨j, z', hj, by rw [List.getElem?_append_left (Nat.lt_trans hj q)]; exact e'⟩, k⟩
    · rw [List.getElem?_append_right (Nat.le_of_not_lt q)] at e
      have q1 : i - ps.length < 1 := (List.getElem?_eq_some_iff.mp e).1
      have q2 : i - ps.length = 0 := by omega
      rw [q2] at e
      have e3 : (y, r.1) = (a, z) := Option.some.inj e
      injection e3 with e4 e5
      obtain ⟨p, hp, ep⟩ := List.mem_map.mp hk
      obtain ⟨j, hj, ej⟩ := List.mem_iff_getElem.mp hp
      refine ⟨⟨j, p.2, by omega, ?_⟩, r, hr, e5, e4 ▸ hy⟩
      rw [List.getElem?_append_left hj, List.getElem?_eq_getElem hj, ej, ← e5, ← ep]
  nodes := fun a ha => by
    have ha' : a ∈ (ps ++ [(y, r.1)]).map (·.1) := ha
    rw [List.map_append] at ha'
    rcases List.mem_append.mp ha' with q | q
    · exact h.nodes a q
    · rw [List.mem_singleton.mp q]
      exact ok.nbs r hr y hy
theorem Part.done {t : List Row} {x : Row} {ps : List (Str × Str)} (h : Part t x.1 ps) (ok : OkTree t) (hx : x ∈ t) (cl : ∀ r ∈ t, r.1 ∈ keysS ps → ∀ y ∈ r.2.2, y ∈ keysS ps) : StepsOk t x.1 ps where
  first := h.first
  nodup := h.nodup
  step := h.step
  nodes := h.nodes
  all := ok.conn (fun y => y ∈ keysS ps) ⟨x, hx, List.mem_map.mpr ⟨(x.1, x.1), List.mem_of_getElem? h.first, rfl⟩⟩ cl
/-- the heap within the search -/
structure StH (H H' : Hp) (p q : Addr) (ps : List (Str × Str)) (ws : List Str) : Prop where
  kp : ∀ b o, H b = some o → H' b = some o
  p : H' p = some (.dK (kvS ps))
  q : H' q = some (.lst (ws.map V.str))
theorem StH.ne {H H' : Hp} {p q : Addr} {ps : List (Str × Str)} {ws : List Str} (h : StH H H' p q ps ws) : q ≠ p := fun z => by
  have := h.q
  rw [z, h.p] at this
  cases this
section
variable {P : Program} {w : World} {K : PySem.W.Frag} {mg : Str → Option Value} {base : Heap} {f c p1 : Addr} {fd : FuncData} {Ps : List Addr}
theorem ok_steps (F : FunD K "steps_to" "steps_to" (defArgs sSteps) (defBody sSteps) (defScope sSteps) [] [] f fd) : FnOk P w K mg base CX0 1 f fd ["tree", "target"] spSteps := by
  refine F.ok scSteps (fun vs H Q E h => ?_) ?_
  · obtain ⟨d, t, x, rfl, _⟩ := h
    rfl
  intro cdv A outer s H vs Q E hr h
  refine ⟨_, PSs.nox (pss_cons (ps_set (i := 2) scSteps.nd rfl (Or.inl rfl) (pe_disp (pps_cons (pv 1) (pv 1) pps_nil) rfl rfl (by decide) (by decide)))
    (pss_cons (ps_set (i := 3) scSteps.nd rfl (Or.inl rfl) (pe_lst (pa_cons (pv 1) pa_nil)))
    (pss_cons (ps_while PassesOwn.never (pt_truth (pv 3) (by intro _; rfl))
      (pss_cons (ps_set (i := 4) scSteps.nd rfl (Or.inl rfl) (pe_bm0 PySem.F.plainAttrs_list PySem.F.slot_list_pop PySem.F.type_list_pop mt_pop (pv 3)))
      (pss_one (ps_for PassesOwn.never rfl (pi_list (pe_dget (hu_of hr) (pv 0) (pv 4) (fun _ _ => rfl))) (pg_name (i := 5) scSteps.nd rfl (Or.inl rfl))
        (pss_one (ps_if (pt_cmp (pc_dnotin (hu_of hr) (pv 5) (pv 2)))
          (pss_cons (ps_dput (hu_of hr) (pv 2) (pv 5) (pv 4) rfl)
          (pss_one (ps_expr (pe_bm PySem.F.plainAttrs_list PySem.F.slot_list_append PySem.F.type_list_append mt_append (pv 3) (pa_cons (pv 5) pa_nil)))))
          pss_nil))))))
    (pss_one (ps_ret (pv 2)))))), ?_⟩
  obtain ⟨d, t, x, rfl, T, ok, hx, hQ⟩ := h
  refine fun p hp => ⟨_, rfl, _, rfl, upd_same, [(Sum.inr x.1, .str x.1)], rfl, by show 1 ≤ 15; decide, ?_⟩
  refine ⟨_, rfl, by show 1 ≤ sizeLine; decide, fun q hq => ?_⟩
  have pq : p ≠ q := fun z => by rw [← z, upd_same] at hq; cases hq
  have hq0 : H q = none := by
    rw [upd_ne (Ne.symm pq), upd_ne (Ne.symm pq)] at hq
    exact hq
  refine ⟨fun m σ H' => ∃ ps ws v4 v5, m = 2 * (t.length - ps.length) + ws.length ∧ m ≤ 80 ∧ σ = [some (.ref d), some (.str x.1), some (.ref p), some (.ref q), v4, v5] ∧ StH H H' p q ps ws ∧ Part t x.1 ps ∧
    (∀ y ∈ ws, y ∈ keysS ps) ∧ ∀ r ∈ t, r.1 ∈ keysS ps → r.1 ∉ ws → ∀ y ∈ r.2.2, y ∈ keysS ps, ⟨_, [(x.1, x.1)], [x.1], none, none, rfl, ?_, rfl, ⟨fun b o e => ?_, ?_, ?_⟩, .start hx, fun y hy => hy, fun r hr hk hn => (hn hk).elim⟩, ?_⟩
  · have := ok.n40
    simp only [List.length_singleton]
    omega
  · rw [upd_ne (ne_of_none e hq0), upd_ne (ne_of_none e hp), upd_ne (ne_of_none e hp)]
    exact e
  · rw [upd_ne pq]
    exact upd_same
  · exact upd_same
  rintro m σ H1 ⟨ps, ws, v4, v5, rfl, h80, rfl, S, Pt, hw, cl⟩
  refine ⟨_, rfl, !(ws.map V.str).isEmpty, .inl ⟨_, .inl (.inl S.q), rfl⟩, ?_⟩
  cases hws : ws with
  | nil =>
    subst hws
    refine iteF ?_
    refine ⟨_, rfl, hQ _ p ps hp S.p (Pt.done ok hx fun r hr hk => cl r hr hk List.not_mem_nil) S.kp⟩
  | cons w0 wr =>
    refine iteT ?_
    rw [← hws]
    have wne : ws ≠ [] := by rw [hws]; exact List.cons_ne_nil _ _
    clear hws
    refine ⟨fun σ' H' => ∃ ps' ws' v4 v5, 2 * (t.length - ps'.length) + ws'.length < 2 * (t.length - ps.length) + ws.length ∧ σ' = [some (.ref d), some (.str x.1), some (.ref p), some (.ref q), v4, v5] ∧ StH H H' p q ps' ws' ∧ Part t x.1 ps' ∧
      (∀ y ∈ ws', y ∈ keysS ps') ∧ ∀ r ∈ t, r.1 ∈ keysS ps' → r.1 ∉ ws' → ∀ y ∈ r.2.2, y ∈ keysS ps', fun σ' H' ⟨ps', ws', v4, v5, lt, r⟩ => ⟨_, lt, ps', ws', v4, v5, rfl, Nat.le_trans (Nat.le_of_lt lt) h80, r⟩, ?_⟩
    obtain ⟨v, hv, hsp⟩ : ∃ v, ws.getLast? = some v ∧ ws = ws.dropLast ++ [v] := ⟨_, List.getLast?_eq_some_getLast wne, (List.dropLast_concat_getLast wne).symm⟩
    have hvm : v ∈ ws := List.mem_of_getLast? hv
    obtain ⟨r, hr', er⟩ := Pt.nodes v (hw v hvm)
    subst er
    refine ⟨_, rfl, .inl ⟨rfl, _, .inl (.inl S.q)⟩, q, ws.map V.str, .str r.1, rfl, rfl, S.q, ?_, ?_⟩
    · rw [List.length_map, List.getElem?_map, ← List.getLast?_eq_getElem?, hv]
      rfl
    have S1 : StH H (upd H1 q (.lst (ws.dropLast.map V.str))) p q ps ws.dropLast := ⟨fun b o e => by rw [upd_ne (ne_of_none e hq0)]; exact S.kp b o e, by rw [upd_ne pq]; exact S.p, upd_same⟩
    have dl : (ws.map V.str).dropLast = ws.dropLast.map V.str := (List.map_dropLast).symm
    rw [dl]
    have T1 : TreeAt (upd H1 q (.lst (ws.dropLast.map V.str))) d t := ⟨T.d.elim (fun e => .inl (S1.kp _ _ e)) fun ⟨o, e⟩ => .inr ⟨o, S1.kp _ _ e⟩, fun r hr => S1.kp _ _ (T.rows r hr)⟩
    have wl : ws.dropLast.length + 1 = ws.length := by
      have := congrArg List.length hsp
      rw [List.length_append] at this
      exact this.symm
    refine ⟨_, rfl, _, rfl, d, _, rfl, T1.get ok hr', r.2.1, rfl, ⟨_, T1.row hr' K⟩, ?_⟩
    refine for_list (K := K) (xs := r.2.2.map V.str) (fun i σ' H' => ∃ ps' ws' v5, 2 * (t.length - ps'.length) + ws'.length < 2 * (t.length - ps.length) + ws.length ∧ σ' = [some (.ref d), some (.str x.1), some (.ref p), some (.ref q), some (.str r.1), v5] ∧ StH H H' p q ps' ws' ∧ Part t x.1 ps' ∧
      (∀ y ∈ ws', y ∈ keysS ps') ∧ r.1 ∈ keysS ps' ∧ (∀ s ∈ t, s.1 ∈ keysS ps' → s.1 ∉ ws' → s.1 ≠ r.1 → ∀ y ∈ s.2.2, y ∈ keysS ps') ∧ ∀ j, j < i → ∀ y, r.2.2[j]? = some y → y ∈ keysS ps')
      ⟨ps, ws.dropLast, v5, by omega, rfl, S1, Pt, fun y hy => hw y (by rw [hsp]; exact List.mem_append_left _ hy), hw _ hvm, fun s hs hk hn ne => cl s hs hk fun z => ?_, fun j hj => absurd hj (Nat.not_lt_zero _)⟩
      (fun i σ' H' _ ⟨ps', ws', v5, _, _, S', _⟩ => .inl (.inl (S'.kp _ _ (T.rows r hr')))) ?_ ?_
    · rw [hsp] at z
      rcases List.mem_append.mp z with z | z
      · exact hn z
      · exact ne (List.mem_singleton.mp z)
    · rintro i xv σ' H' hxi ⟨ps', ws', v5, lt, rfl, S', Pt', hw', hrk, cl', don⟩
      rw [List.getElem?_map] at hxi
      cases hy : r.2.2[i]? with
      | none => rw [hy] at hxi; cases hxi
      | some y =>
        rw [hy] at hxi
        cases hxi
        have hyr : y ∈ r.2.2 := List.mem_of_getElem? hy
        refine ⟨_, rfl, _, rfl, p, _, rfl, .inl ⟨_, Sum.inr y, .inl S'.p, rfl, rfl⟩, _, rfl, ?_⟩
        rw [kvS_get]
        by_cases hk : y ∈ keysS ps'
        · rw [decide_eq_true hk]
          refine iteF ?_
          exact ⟨ps', ws', _, lt, rfl, S', Pt', hw', hrk, cl', fun j hj y' hy' => by
            by_cases z : j = i
            · rw [z, hy] at hy'
              cases hy'
              exact hk
            · exact don j (by omega) y' hy'⟩
        · rw [decide_eq_false hk]
          refine iteT ?_
          have Pt2 := Pt'.add ok hr' hrk hyr hk
          have l2 := Pt2.len
          have l3 := ok.n40
          rw [List.length_append] at l2
          simp only [List.length_singleton] at l2
          refine ⟨_, rfl, _, rfl, _, rfl, p, _, rfl, DPut.k (k := Sum.inr y) S'.p (by rw [kvS, List.length_map, sizeLine_eq]; omega), ?_⟩
          rw [kvS_put r.1 hk]
          have hk0 : y ∉ ws' := fun z => hk (hw' y z)
          have yk : y ∈ keysS (ps' ++ [(y, r.1)]) := by
            show y ∈ (ps' ++ [(y, r.1)]).map (·.1)
            rw [List.map_append]
            exact List.mem_append_right _ (List.mem_singleton.mpr rfl)
          have mono : ∀ z, z ∈ keysS ps' → z ∈ keysS (ps' ++ [(y, r.1)]) := fun z hz => by
            show z ∈ (ps' ++ [(y, r.1)]).map (·.1)
            rw [List.map_append]
            exact List.mem_append_left _ hz
          have qp := S'.ne
          refine ⟨_, rfl, .inl ⟨rfl, _, .inl (.inl (by rw [upd_ne qp]; exact S'.q))⟩, _, rfl, q, ws'.map V.str, .str y, rfl, rfl, by rw [upd_ne qp]; exact S'.q, by rw [List.length_map, sizeLine_eq]; omega, ?_⟩
          refine ⟨ps' ++ [(y, r.1)], ws' ++ [y], _, ?_, rfl, ⟨fun b o e => ?_, ?_, ?_⟩, Pt2, fun z hz => ?_, mono _ hrk, fun s hs hks hns ne y' hy' => ?_, fun j hj y' hy' => ?_⟩
          · rw [List.length_append, List.length_append]
            simp only [List.length_singleton]
            omega
          · rw [upd_ne (ne_of_none e hq0), upd_ne (ne_of_none e hp)]
            exact S'.kp b o e
          · rw [upd_ne (Ne.symm qp)]
            exact upd_same
          · rw [upd_same, List.map_append]
            rfl
          · rcases List.mem_append.mp hz with z' | z'
            · exact mono _ (hw' z z')
            · rw [List.mem_singleton.mp z']
              exact yk
          · by_cases e : s.1 = y
            · exact (hns (List.mem_append_right _ (List.mem_singleton.mpr e))).elim
            · have : s.1 ∈ keysS ps' := by
                have h' : s.1 ∈ (ps' ++ [(y, r.1)]).map (·.1) := hks
                rw [List.map_append] at h'
                rcases List.mem_append.mp h' with z | z
                · exact z
                · exact (e (List.mem_singleton.mp z)).elim
              exact mono _ (cl' s hs this (fun z => hns (List.mem_append_left _ z)) ne y' hy')
          · by_cases z : j = i
            · rw [z, hy] at hy'
              cases hy'
              exact yk
            · exact mono _ (don j (by omega) y' hy')
    · rintro σ' H' ⟨ps', ws', v5, lt, rfl, S', Pt', hw', hrk, cl', don⟩
      refine ⟨ps', ws', _, _, lt, rfl, S', Pt', hw', fun s hs hk hn => ?_⟩
      by_cases e : s.1 = r.1
      · rw [ok.one hs hr' e]
        intro y hy
        obtain ⟨j, hj, ej⟩ := List.mem_iff_getElem.mp hy
        exact don j (by rw [List.length_map]; exact hj) y (by rw [List.getElem?_eq_getElem hj, ej])
      · exact cl' s hs hk hn e
end
end A8
set_option Elab.async false
set_option linter.all false
set_option maxRecDepth 100000
set_option maxHeartbeats 4000000
namespace A8
open PySem PySem.Spec PyProof.Rows L2 AL
open GxR (TabB TabG Tabbed)
abbrev sPiece : Stmt := top 11
theorem scPiece : FnScope ["graph", "ends", "node"] ["graph"] (defScope sPiece) := ⟨rfl, rfl, rfl, by decide +kernel, rfl, by decide +kernel, by decide +kernel⟩
def spPiece : Sp := fun vs H Q _ => ∃ (d : Addr) (t : List Row), vs = [.ref d] ∧ H d = some (.dK (kvsOf t)) ∧ RowsAt H t ∧ OkTree t ∧ ∀ H', Same H H' → Q (.bl true) H'
def rLenQ (K : PySem.W.Frag) : List V → Hp → VK → Prop := fun xs H Q => ∃ p ys, xs = [V.ref p] ∧ (SqL K H p ys ∨ SqT K H p ys) ∧ Q (V.int ys.length) H
theorem min_of : ∀ {l : List Str}, l ≠ [] → ∃ m ∈ l, ∀ k ∈ l, ¬ sLt k m
  | [], h => (h rfl).elim
  | [a], _ => ⟨a, List.mem_cons_self, fun k hk => by rw [List.mem_singleton.mp hk]; exact sLt_irrefl _⟩
  | a :: b :: r, _ => by
    obtain ⟨m, hm, hk⟩ := min_of (l := b :: r) (List.cons_ne_nil _ _)
    by_cases h : sLt a m
    · exact ⟨a, List.mem_cons_self, fun k hk' => by
        rcases List.mem_cons.mp hk' with rfl | z
        · exact sLt_irrefl _
        · exact fun q => hk k z (sLt_tr q h)⟩
    · exact ⟨m, List.mem_cons_of_mem _ hm, fun k hk' => by
        rcases List.mem_cons.mp hk' with rfl | z
        · exact h
        · exact hk k z⟩
theorem StepsOk.len {t : List Row} {x : Str} {ps : List (Str × Str)} (h : StepsOk t x ps) (ok : OkTree t) : ps.length = t.length := by
  have h1 := OkTree.deg.nodup_sub (ys := t.map (·.1)) h.nodup fun y hy => let ⟨r, hr, e⟩ := h.nodes y hy; List.mem_map.mpr ⟨r, hr, e⟩
  have h2 := OkTree.deg.nodup_sub (ys := ps.map (·.1)) ok.nodup fun y hy => by
    obtain ⟨r, hr, e⟩ := List.mem_map.mp hy
    rw [← e]
    exact h.all r hr
  rw [List.length_map, List.length_map] at h1 h2
  omega
def degs (t : List Row) : List Int := t.map fun r => (r.2.2.length : Int)
theorem degs_sum : ∀ t : List Row, (degs t).sum = (((t.map fun r => r.2.2.length).sum : Nat) : Int)
  | [] => rfl
  | r :: t => by
    have := degs_sum t
    show (r.2.2.length : Int) + (degs t).sum = ((r.2.2.length + (t.map fun r => r.2.2.length).sum : Nat) : Int)
    rw [this]
    omega
section
variable {P : Program} {w : World} {K : PySem.W.Frag} {mg : Str → Option Value} {base : Heap} {f c p1 : Addr} {fd : FuncData} {Ps : List Addr}
theorem ok_piece (F : FunD K "_is_one_piece_without_cycles" "_is_one_piece_without_cycles" (defArgs sPiece) (defBody sPiece) (defScope sPiece) [] [] f fd) (cS : Cal P w K mg base 1 "steps_to" spSteps)
    (gS : mg "sum" = none) (gL : mg "len" = none) (gM : mg "min" = none) : FnOk P w K mg base CX0 2 f fd ["graph"] spPiece := by
  refine F.ok scPiece (fun vs H Q E h => ?_) ?_
  · obtain ⟨d, t, rfl, _⟩ := h
    rfl
  intro cdv A outer s H vs Q E hr h
  refine ⟨_, PSs.nox (pss_cons (ps_set (i := 1) scPiece.nd rfl (Or.inl rfl) (pe_lock (pe_callB (cr_sum rfl) rfl gS (by decide +kernel) (pa_cons (pe_lc (own := [("node", 2)]) (g := gName 2) (tt := tYes) (te := tCB (rLenQ K) (tCons (tDGet (tVar 0) (tVar 2)) tNil)) rfl scPiece.nd (pi_keys (pv 0)) (blkOk_by (N := ["graph", "ends", "node"]) (sc := defScope sPiece) (by decide +kernel))
      (fun _ _ _ _ _ => pg_name (i := 2) scPiece.nd rfl (Or.inl rfl)) (fun _ _ _ _ _ => pts_nil) (fun _ _ _ _ _ => pe_callB call_len_seq rfl gL boot_len (pa_cons (pe_dget (hu_of hr) (pv 0) (pv 2) (fun _ _ => rfl)) pa_nil))) pa_nil))))
    (pss_one (ps_ret (pe_and (pe_cmpR op_eq (pv 1) (pe_op op_sub (pe_op op_mul pe_int (pe_callB call_lenD rfl gL boot_len (pa_cons (pv 0) pa_nil))) pe_int) rfl)
      (pe_one (pe_cmpR op_eq (pe_callB call_lenD rfl gL boot_len (pa_cons (pe_c cS hr (by decide) rfl (pa_cons (pv 0) (pa_cons (pe_callB (call_minD rfl) rfl gM (by decide +kernel) (pa_cons (pv 0) pa_nil)) pa_nil))) pa_nil)) (pe_callB call_lenD rfl gL boot_len (pa_cons (pv 0) pa_nil)) rfl)))))), ?_⟩
  obtain ⟨d, t, rfl, hd, hR, ok, hQ⟩ := h
  refine ⟨d, _, hd, trivial, fun od => ?_⟩
  have hR0 : RowsAt (upd H d (.frz od (.dK (kvsOf t)))) t := rows_lock hd hR
  refine ⟨_, rfl, d, od, rfl, .inl ⟨kvsOf t, upd_same, fun D hD => ?_⟩⟩
  have Dd : D ≠ d := fun z => by rw [z, upd_same] at hD; cases hD
  have HD : H D = none := by
    rw [upd_ne Dd] at hD
    exact hD
  have T0 : TreeAt (upd H d (.frz od (.dK (kvsOf t)))) d t := ⟨.inr ⟨od, upd_same⟩, hR0⟩
  have keep : ∀ {b : Addr} {o u : HO}, upd H d (.frz od (.dK (kvsOf t))) b = some o → upd (upd H d (.frz od (.dK (kvsOf t)))) D u b = some o := fun e => by
    rw [upd_ne (ne_of_none e hD)]
    exact e
  refine lc_it walk_keys (fun i H' => H' = upd (upd H d (.frz od (.dK (kvsOf t)))) D (.lst ((degs (t.take i)).map V.int))) rfl (fun i H' _ e => by rw [e]; exact keep upd_same) ?_ ?_
  · rintro i x H1 H' hi rfl ⟨rfl, k, v, hk, rfl⟩
    obtain ⟨r, hr, hrt, rfl, rfl⟩ := kvsOf_at hk
    have T1 : TreeAt (upd (upd H d (.frz od (.dK (kvsOf t)))) D (.lst ((degs (t.take i)).map V.int))) d t := ⟨.inr ⟨od, keep upd_same⟩, fun r hr => keep (hR0 r hr)⟩
    refine ⟨rfl, _, rfl, _, rfl, d, _, rfl, T1.get ok hrt, r.2.1, _, rfl, .inl (T1.row hrt K), _, upd_same, ?_, ?_⟩
    · have := ok.n40
      rw [degs, List.map_map, List.length_map, List.length_take, sizeLine_eq]
      omega
    · rw [upd_upd, degs, degs, List.take_succ, hr, List.map_append, List.map_append, List.length_map]
      rfl
  · rintro H' rfl
    refine ⟨D, degs t, rfl, .inl (.inl (by rw [upd_same, kvsOf_len, List.take_length])), keep upd_same, ?_⟩
    have hL : Same H (upd (upd (upd H d (.frz od (.dK (kvsOf t)))) D (.lst ((degs (t.take (kvsOf t).length)).map V.int))) d (.dK (kvsOf t))) := fun b o e => by
      by_cases z : b = d
      · rw [z] at e ⊢
        rw [upd_same, ← e, hd]
      · rw [upd_ne z, upd_ne (ne_of_none e HD), upd_ne z]
        exact e
    generalize upd (upd (upd H d (.frz od (.dK (kvsOf t)))) D (.lst ((degs (t.take (kvsOf t).length)).map V.int))) d (.dK (kvsOf t)) = HL at hL
    have TL : TreeAt HL d t := ⟨.inl (hL _ _ hd), fun r hr => hL _ _ (hR r hr)⟩
    have n1 := ok.n1
    have n40 := ok.n40
    refine ⟨_, rfl, _, rfl, d, _, rfl, hL _ _ hd, _, _, rfl, rfl, .inl ⟨by decide, by decide⟩, _, _, rfl, rfl, rfl, true, ?_, iteT ?_⟩
    · refine congrArg V.bl (decide_eq_true (congrArg V.int ?_))
      have e1 := degs_sum t
      have e2 := ok.ends
      rw [kvsOf_len, e1]
      omega
    obtain ⟨m, hm, hmin⟩ := min_of (l := t.map (·.1)) (fun z => by
      rw [List.map_eq_nil_iff] at z
      rw [z] at n1
      exact absurd n1 (by decide))
    refine ⟨_, rfl, _, rfl, d, kvsOf t, t.map (·.1), rfl, .inl (hL _ _ hd), by unfold kvsOf; rw [List.map_map, List.map_map]; rfl, fun z => ?_, fun m' hm' hmin' => ?_⟩
    · rw [z] at hm
      cases hm
    obtain ⟨r, hr', er⟩ := List.mem_map.mp hm'
    subst er
    refine ⟨d, t, r, rfl, TL, ok, hr', fun H3 p ps hp hp3 so same => ?_⟩
    refine ⟨p, _, rfl, hp3, _, rfl, d, _, rfl, same _ _ (hL _ _ hd), rfl, ?_⟩
    have e : decide (V.int ((kvS ps).length : Int) = V.int ((kvsOf t).length : Int)) = true := decide_eq_true (by rw [kvsOf_len, kvS, List.length_map, so.len ok])
    show Q (.bl (decide (V.int ((kvS ps).length : Int) = V.int ((kvsOf t).length : Int)))) H3
    rw [e]
    exact hQ _ (hL.trans same)
end
end A8
set_option Elab.async false
set_option linter.all false
set_option maxRecDepth 100000
set_option maxHeartbeats 4000000
namespace A8
open PySem PySem.Spec PyProof.Rows L2 AL
/-! ### directions in a tree -/
def Nb (t : List Row) (u w : Str) : Prop := ∃ r ∈ t, r.1 = u ∧ w ∈ r.2.2
/-- the directed edges -/
def edgesD (t : List Row) : List (Str × Str) := t.flatMap fun r => r.2.2.map fun y => (r.1, y)
def edgesP (ps : List (Str × Str)) : List (Str × Str) := ps.flatMap fun q => [(q.1, q.2), (q.2, q.1)]
theorem mem_edgesD {t : List Row} {u w : Str} : (u, w) ∈ edgesD t ↔ Nb t u w := by
  unfold edgesD Nb
  rw [List.mem_flatMap]
  constructor
  · rintro ⟨r, hr, h⟩
    obtain ⟨y, hy, e⟩ := List.mem_map.mp h
    injection e with e1 e2
    exact ⟨r, hr, e1, e2 ▸ hy⟩
  · rintro ⟨r, hr, e, h⟩
    exact ⟨r, hr, List.mem_map.mpr ⟨w, h, by rw [e]⟩⟩
theorem len_edgesD : ∀ t : List Row, (edgesD t).length = (t.map fun r => r.2.2.length).sum
  | [] => rfl
  | r :: t => by
    have := len_edgesD t
    unfold edgesD at this ⊢
    rw [List.flatMap_cons, List.length_append, this, List.length_map]
    rfl
theorem len_edgesP : ∀ ps : List (Str × Str), (edgesP ps).length = 2 * ps.length
  | [] => rfl
  | q :: ps => by
    have := len_edgesP ps
    unfold edgesP at this ⊢
    rw [List.flatMap_cons, List.length_append, this]
    simp only [List.length_cons, List.length_nil]
    omega
theorem mem_edgesP {ps : List (Str × Str)} {u w : Str} : (u, w) ∈ edgesP ps ↔ (u, w) ∈ ps ∨ (w, u) ∈ ps := by
  unfold edgesP
  rw [List.mem_flatMap]
  constructor
  · rintro ⟨q, hq, h⟩
    simp only [List.mem_cons, List.not_mem_nil, or_false] at h
    rcases h with h | h
    · exact .inl (by rw [h]; exact hq)
    · refine .inr ?_
      injection h with e1 e2
      rw [e1, e2]
      exact hq
  · rintro (h | h)
    · exact ⟨_, h, List.mem_cons_self⟩
    · exact ⟨_, h, List.mem_cons_of_mem _ List.mem_cons_self⟩
section
variable {t : List Row} {x : Str} {ps : List (Str × Str)}
/-- the place of a key -/
theorem StepsOk.place (h : StepsOk t x ps) {i j : Nat} {y z z' : Str} (hi : ps[i]? = some (y, z)) (hj : ps[j]? = some (y, z')) : i = j := by
  obtain ⟨li, ei⟩ := List.getElem?_eq_some_iff.mp hi
  obtain ⟨lj, ej⟩ := List.getElem?_eq_some_iff.mp hj
  have l1 : i < (keysS ps).length := by rw [List.length_map]; exact li
  have l2 : j < (keysS ps).length := by rw [List.length_map]; exact lj
  refine (List.getElem_inj (h₀ := l1) (h₁ := l2) h.nodup).mp ?_
  rw [List.getElem_map, List.getElem_map, ei, ej]
theorem StepsOk.fn (h : StepsOk t x ps) {y z z' : Str} (h1 : (y, z) ∈ ps) (h2 : (y, z') ∈ ps) : z = z' := by
  obtain ⟨i, li, ei⟩ := List.mem_iff_getElem.mp h1
  obtain ⟨j, lj, ej⟩ := List.mem_iff_getElem.mp h2
  have e := h.place (i := i) (j := j) (by rw [List.getElem?_eq_getElem li, ei]) (by rw [List.getElem?_eq_getElem lj, ej])
  subst e
  rw [ei] at ej
  injection ej
theorem StepsOk.cons_ (h : StepsOk t x ps) : ∃ rest, ps = (x, x) :: rest := by
  have := h.first
  cases ps with
  | nil => cases this
  | cons q r => exact ⟨r, by rw [Option.some.inj this]⟩
theorem StepsOk.edge (h : StepsOk t x ps) (ok : OkTree t) {y z : Str} (hm : (y, z) ∈ ps) (ne : y ≠ x) : Nb t z y ∧ Nb t y z := by
  obtain ⟨i, li, ei⟩ := List.mem_iff_getElem.mp hm
  have hi : ps[i]? = some (y, z) := by rw [List.getElem?_eq_getElem li, ei]
  have i0 : 0 < i := by
    cases i with
    | zero =>
      rw [h.first] at hi
      injection hi with hi
      injection hi with e1 e2
      exact (ne e1.symm).elim
    | succ i => exact Nat.succ_pos i
  obtain ⟨_, r, hr, er, hy⟩ := h.step i y z i0 hi
  obtain ⟨s, hs, es⟩ := ok.nbs r hr y hy
  exact ⟨⟨r, hr, er, hy⟩, ⟨s, hs, es, er ▸ ok.sym r hr s hs (by rw [es]; exact hy)⟩⟩
/-- every edge goes to the parent or to a child -/
theorem StepsOk.par (h : StepsOk t x ps) (ok : OkTree t) {u w : Str} (hn : Nb t u w) : (u ≠ x ∧ (u, w) ∈ ps) ∨ (w ≠ x ∧ (w, u) ∈ ps) := by
  obtain ⟨rest, rfl⟩ := h.cons_
  have nk := h.nodup
  rw [List.map_cons, List.nodup_cons] at nk
  have rne : ∀ q ∈ rest, q.1 ≠ x := fun q hq e => nk.1 (List.mem_map.mpr ⟨q, hq, e⟩)
  have sub : ∀ e ∈ edgesP rest, e ∈ edgesD t := fun e he => by
    obtain ⟨a, b⟩ := e
    rcases mem_edgesP.mp he with q | q
    · exact mem_edgesD.mpr (h.edge ok (List.mem_cons_of_mem _ q) (rne _ q)).2
    · exact mem_edgesD.mpr (h.edge ok (List.mem_cons_of_mem _ q) (rne _ q)).1
  have order : ∀ {a b c : Str}, (a, b) ∈ rest → (b, a) ∈ rest → False := fun {a b c} h1 h2 => by
    obtain ⟨i, li, ei⟩ := List.mem_iff_getElem.mp h1
    obtain ⟨j, lj, ej⟩ := List.mem_iff_getElem.mp h2
    have hi : ((x, x) :: rest)[i + 1]? = some (a, b) := by rw [List.getElem?_cons_succ, List.getElem?_eq_getElem li, ei]
    have hj : ((x, x) :: rest)[j + 1]? = some (b, a) := by rw [List.getElem?_cons_succ, List.getElem?_eq_getElem lj, ej]
    obtain ⟨⟨k, z, lk, ek⟩, _⟩ := h.step _ _ _ (Nat.succ_pos i) hi
    obtain ⟨⟨k', z', lk', ek'⟩, _⟩ := h.step _ _ _ (Nat.succ_pos j) hj
    have e1 := h.place ek hj
    have e2 := h.place ek' hi
    omega
  have selfN : ∀ {a b : Str}, (a, b) ∈ rest → a ≠ b := fun {a b} h1 e => by
    subst e
    exact order (c := a) h1 h1
  have ndP : (edgesP rest).Nodup := by
    have go : ∀ (l : List (Str × Str)), (∀ q ∈ l, q ∈ rest) → (l.map (·.1)).Nodup → (edgesP l).Nodup := fun l => by
      induction l with
      | nil => intro _ _; exact .nil
      | cons q l ih =>
        intro hl hnd
        rw [List.map_cons, List.nodup_cons] at hnd
        have i1 := ih (fun p hp => hl p (List.mem_cons_of_mem _ hp)) hnd.2
        have qr := hl q List.mem_cons_self
        have sn := selfN (a := q.1) (b := q.2) qr
        have out1 : (q.1, q.2) ∉ edgesP l := fun hm => by
          rcases mem_edgesP.mp hm with z | z
          · exact hnd.1 (List.mem_map.mpr ⟨_, z, rfl⟩)
          · exact order (c := q.1) (show (q.1, q.2) ∈ rest from qr) (hl _ (List.mem_cons_of_mem _ z))
        have out2 : (q.2, q.1) ∉ edgesP l := fun hm => by
          rcases mem_edgesP.mp hm with z | z
          · exact order (c := q.1) (show (q.1, q.2) ∈ rest from qr) (hl _ (List.mem_cons_of_mem _ z))
          · exact hnd.1 (List.mem_map.mpr ⟨_, z, rfl⟩)
        show ((q.1, q.2) :: (q.2, q.1) :: edgesP l).Nodup
        refine List.nodup_cons.mpr ⟨fun hm => ?_, List.nodup_cons.mpr ⟨out2, i1⟩⟩
        rcases List.mem_cons.mp hm with z | z
        · injection z with z1 _
          exact sn z1
        · exact out1 z
    exact go rest (fun q hq => hq) nk.2
  have hl : (edgesD t).length = (edgesP rest).length := by
    have l1 := h.len ok
    rw [List.length_cons] at l1
    have l2 := ok.ends
    rw [len_edgesD, len_edgesP]
    omega
  have all : ∀ e ∈ edgesD t, e ∈ edgesP rest := fun e he => by
    apply Classical.byContradiction
    intro hn
    have l := pigeon (xs := edgesP rest) (ys := (edgesD t).erase e) ndP fun y hy => (List.mem_erase_of_ne fun z => hn (by rw [← z]; exact hy)).mpr (sub y hy)
    rw [List.length_erase_of_mem he] at l
    have := List.length_pos_of_mem he
    omega
  rcases mem_edgesP.mp (all _ (mem_edgesD.mpr hn)) with q | q
  · exact .inl ⟨rne _ q, List.mem_cons_of_mem _ q⟩
  · exact .inr ⟨rne _ q, List.mem_cons_of_mem _ q⟩
where pigeon : ∀ {xs ys : List (Str × Str)}, xs.Nodup → (∀ y ∈ xs, y ∈ ys) → xs.length ≤ ys.length
  | [], _, _, _ => Nat.zero_le _
  | x :: xs, ys, nd, h => by
    have hx := h x List.mem_cons_self
    have nd' := List.nodup_cons.mp nd
    have l := pigeon (xs := xs) (ys := ys.erase x) nd'.2 fun y hy => (List.mem_erase_of_ne fun z => nd'.1 (by rw [← z]; exact hy)).mpr (h y (List.mem_cons_of_mem _ hy))
    rw [List.length_erase_of_mem hx] at l
    have := List.length_pos_of_mem hx
    simp only [List.length_cons]
    omega
/-- below v -/
inductive Below (ps : List (Str × Str)) (v : Str) : Str → Prop
  | child {z : Str} : (z, v) ∈ ps → z ≠ v → Below ps v z
  | step {z w : Str} : (z, w) ∈ ps → z ≠ w → Below ps v w → Below ps v z
/-- reached from b, never over v -/
inductive Away (t : List Row) (v b : Str) : Str → Prop
  | here : b ≠ v → Away t v b b
  | on {z w : Str} : Away t v b z → Nb t z w → w ≠ v → Away t v b w
theorem Below.root (h : StepsOk t x ps) {v z : Str} (b : Below ps v z) : z ≠ x := by
  have hr : (x, x) ∈ ps := List.mem_of_getElem? h.first
  cases b with
  | child h1 ne => exact fun e => ne (by rw [e] at h1; rw [e, ← h.fn h1 hr])
  | step h1 ne _ => exact fun e => ne (by rw [e] at h1; rw [e, ← h.fn h1 hr])
theorem Below.on (h : StepsOk t x ps) (ok : OkTree t) {v z w : Str} (b : Below ps v z) (hn : Nb t z w) (ne : w ≠ v) : Below ps v w := by
  rcases h.par ok hn with ⟨zx, hm⟩ | ⟨wx, hm⟩
  · cases b with
    | child h1 _ => exact (ne (h.fn hm h1)).elim
    | step h1 _ h2 => rw [h.fn hm h1]; exact h2
  · refine .step hm (fun e => ?_) b
    subst e
    obtain ⟨r, hr, er, hw⟩ := hn
    exact ok.self r hr (er ▸ hw)
/-- the neighbour from which the target is reached without v is v's parent -/
theorem StepsOk.dir (h : StepsOk t x ps) (ok : OkTree t) {v b : Str} (hb : Nb t v b) (a : Away t v b x) : (v, b) ∈ ps := by
  rcases h.par ok hb with ⟨_, hm⟩ | ⟨bx, hm⟩
  · exact hm
  · have ne : b ≠ v := fun e => by
      obtain ⟨r, hr, er, hw⟩ := hb
      exact ok.self r hr (by rw [er, ← e]; exact hw)
    have all : ∀ z, Away t v b z → Below ps v z := fun z q => by
      induction q with
      | here _ => exact .child hm ne
      | on _ hn w ih => exact ih.on h ok hn w
    exact ((all x a).root h rfl).elim
end
theorem Away.pre {t : List Row} {v b c x : Str} (hn : Nb t b c) (ne : b ≠ v) (a : Away t v c x) : Away t v b x := by
  induction a with
  | here h => exact .on (.here ne) hn h
  | on _ h w ih => exact .on ih h w
/-- the direction from v to y -/
def Dr (t : List Row) (v y z : Str) : Prop := (v = y ∧ z = v) ∨ (v ≠ y ∧ Nb t v z ∧ Away t v z y)
section
variable {t : List Row} {x : Str} {ps : List (Str × Str)}
theorem StepsOk.away (h : StepsOk t x ps) (ok : OkTree t) {v : Str} {i : Nat} {z : Str} (hi : ps[i]? = some (v, z)) : ∀ (n j : Nat) (w c : Str), j < n → j < i → ps[j]? = some (w, c) → Away t v w x
  | 0, _, _, _, hn, _, _ => absurd hn (Nat.not_lt_zero _)
  | n + 1, j, w, c, hn, hj, hw => by
    have wv : w ≠ v := fun e => by
      have := h.place (i := j) (j := i) (by rw [hw, e]) hi
      omega
    by_cases e : w = x
    · rw [e] at wv ⊢
      exact .here wv
    · have j0 : 0 < j := by
        cases j with
        | zero =>
          rw [h.first] at hw
          injection hw with hw
          injection hw with e1 _
          exact (e e1.symm).elim
        | succ j => exact Nat.succ_pos j
      obtain ⟨⟨k, c', hk, hc⟩, _⟩ := h.step j w c j0 hw
      exact (h.away ok hi n k c c' (by omega) (by omega) hc).pre (h.edge ok (List.mem_of_getElem? hw) e).2 wv
theorem StepsOk.dr (h : StepsOk t x ps) (ok : OkTree t) {v z : Str} (hm : (v, z) ∈ ps) : Dr t v x z := by
  by_cases e : v = x
  · refine .inl ⟨e, ?_⟩
    subst e
    exact h.fn hm (List.mem_of_getElem? h.first)
  · obtain ⟨i, li, ei⟩ := List.mem_iff_getElem.mp hm
    have hi : ps[i]? = some (v, z) := by rw [List.getElem?_eq_getElem li, ei]
    have i0 : 0 < i := by
      cases i with
      | zero =>
        rw [h.first] at hi
        injection hi with hi
        injection hi with e1 _
        exact (e e1.symm).elim
      | succ i => exact Nat.succ_pos i
    obtain ⟨⟨k, c', hk, hc⟩, _⟩ := h.step i v z i0 hi
    exact .inr ⟨e, (h.edge ok hm e).2, h.away ok hi i k z c' hk hk hc⟩
theorem StepsOk.of_dr (h : StepsOk t x ps) (ok : OkTree t) {v z : Str} (d : Dr t v x z) : (v, z) ∈ ps := by
  rcases d with ⟨e, e2⟩ | ⟨_, hn, a⟩
  · rw [e2, e]
    exact List.mem_of_getElem? h.first
  · exact h.dir ok hn a
theorem exists_steps (ok : OkTree t) {r : Row} (hr : r ∈ t) : ∃ ps, StepsOk t r.1 ps := by
  have go : ∀ (k : Nat) (ps : List (Str × Str)), Part t r.1 ps → t.length - ps.length = k → ∃ ps, StepsOk t r.1 ps := fun k => by
    induction k with
    | zero =>
      intro ps P e
      refine ⟨ps, P.done ok hr fun s hs hk y hy => ?_⟩
      apply Classical.byContradiction
      intro hn
      have := (P.add ok hs hk hy hn).len
      rw [List.length_append] at this
      simp only [List.length_singleton] at this
      omega
    | succ k ih =>
      intro ps P e
      by_cases c : ∀ s ∈ t, s.1 ∈ keysS ps → ∀ y ∈ s.2.2, y ∈ keysS ps
      · exact ⟨ps, P.done ok hr c⟩
      · obtain ⟨s, c⟩ := Classical.not_forall.mp c
        obtain ⟨hs, c⟩ := Classical.not_imp.mp c
        obtain ⟨hk, c⟩ := Classical.not_imp.mp c
        obtain ⟨y, c⟩ := Classical.not_forall.mp c
        obtain ⟨hy, hn⟩ := Classical.not_imp.mp c
        refine ih _ (P.add ok hs hk hy hn) ?_
        rw [List.length_append]
        simp only [List.length_singleton]
        omega
  exact go _ _ (Part.start hr) rfl
theorem Dr.unique (ok : OkTree t) {r : Row} (hr : r ∈ t) {v z z' : Str} (d : Dr t v r.1 z) (d' : Dr t v r.1 z') : z = z' := by
  obtain ⟨ps, h⟩ := exists_steps ok hr
  exact h.fn (h.of_dr ok d) (h.of_dr ok d')
end
/-- the direction, as a function -/
noncomputable def dirN (t : List Row) (v y : Str) : Str := @Classical.epsilon Str ⟨v⟩ (Dr t v y)
theorem dirN_eq {t : List Row} (ok : OkTree t) {r : Row} (hr : r ∈ t) {v z : Str} (d : Dr t v r.1 z) : dirN t v r.1 = z :=
  Dr.unique ok hr (@Classical.epsilon_spec_aux Str ⟨v⟩ (Dr t v r.1) ⟨z, d⟩) d
/-! ### views -/
def seen1 (v : Str) (δ : Str → Str) (a b : Str) : List Str := if δ b = v ∨ δ b ≠ δ a then [δ b] else []
def viewF (v : Str) (δ : Str → Str) : List Str → List Str
  | [] => []
  | [_] => []
  | a :: b :: r => seen1 v δ a b ++ viewF v δ (b :: r)
theorem viewF_snoc (v : Str) (δ : Str → Str) : ∀ (l : List Str) (a b : Str), viewF v δ (l ++ [a] ++ [b]) = viewF v δ (l ++ [a]) ++ seen1 v δ a b
  | [], a, b => by
    show seen1 v δ a b ++ [] = [] ++ seen1 v δ a b
    rw [List.append_nil, List.nil_append]
  | [c], a, b => by
    show seen1 v δ c a ++ (seen1 v δ a b ++ []) = (seen1 v δ c a ++ []) ++ seen1 v δ a b
    rw [List.append_nil, List.append_nil]
  | c :: e :: l, a, b => by
    show seen1 v δ c e ++ viewF v δ (e :: l ++ [a] ++ [b]) = (seen1 v δ c e ++ viewF v δ (e :: l ++ [a])) ++ seen1 v δ a b
    rw [viewF_snoc v δ (e :: l) a b, List.append_assoc]
theorem viewF_len (v : Str) (δ : Str → Str) : ∀ l : List Str, (viewF v δ l).length ≤ l.length
  | [] => Nat.le_refl _
  | [_] => Nat.zero_le _
  | a :: b :: r => by
    have h := viewF_len v δ (b :: r)
    show (seen1 v δ a b ++ viewF v δ (b :: r)).length ≤ (b :: r).length + 1
    rw [List.length_append]
    have : (seen1 v δ a b).length ≤ 1 := by
      unfold seen1
      split
      · exact Nat.le_refl _
      · exact Nat.zero_le _
    omega
end A8
set_option Elab.async false
set_option linter.all false
set_option maxRecDepth 100000
set_option maxHeartbeats 4000000
namespace A8
open PySem PySem.Spec PyProof.Rows L2 AL
open GxR (TabB TabG Tabbed)
section
variable {Ps : List Addr} {H H1 : Hp} {d : Addr} {u : HO} {o : Obj}
theorem Ext.unlock (hd : H d = some u) (n : ∀ ps, u ≠ .tbl ps) (e : Ext Ps (upd H d (.frz o u)) H1) : Ext Ps H (upd H1 d u) where
  kp := fun b v h z => by
    by_cases q : b = d
    · rw [q] at h ⊢
      rw [upd_same, ← h, hd]
    · rw [upd_ne q]
      exact e.kp b v (by rw [upd_ne q]; exact h) z
  tb := fun p hp h => by
    obtain ⟨ps, e1, e2⟩ := h
    have q : p ≠ d := fun q => by
      rw [q, hd] at e1
      exact n ps (Option.some.inj e1)
    obtain ⟨ps', e3, e4⟩ := e.tb p hp ⟨ps, by rw [upd_ne q]; exact e1, e2⟩
    exact ⟨ps', by rw [upd_ne q]; exact e3, e4⟩
theorem Ext.lockd (ht : Tabs Ps H) (hd : H d = some u) (n : ∀ ps, u ≠ .tbl ps) (e : Ext Ps (upd H d (.frz o u)) H1) : H1 d = some (.frz o u) :=
  e.kp d _ upd_same (notPs' ht hd n)
theorem Ext.same (h : Same H H1) : Ext Ps H H1 := ⟨fun b o e _ => h b o e, fun p _ ⟨ps, e, t⟩ => ⟨ps, h _ _ e, t⟩⟩
end
theorem quant_keys {K : PySem.W.Frag} {Ps : List Addr} {p1 d : Addr} {kvs : List (Key × V)} {g : TG} {te : TE} {vs : List Nat} {σ : L2.St} {H : Hp} {Q : VK} (hp : p1 ∈ Ps) (hd : H d = some (.dK kvs)) (h0 : σ[0]? = some (some (.ref d))) (ht : Tabs Ps H)
    (hs : ∀ (od : Obj) (i : Nat) (k : Key) (v : V) (H1 : Hp) (Nx : VK), kvs[i]? = some (k, v) → Ext Ps (upd H d (.frz od (.dK kvs))) H1 → Tabs Ps (upd H d (.frz od (.dK kvs))) → (∀ H3, Ext Ps (upd H d (.frz od (.dK kvs))) H3 → Nx (.bl true) H3) →
      g (kV k) (wipe σ vs) H1 fun σ2 H2 => wipe σ2 vs = wipe σ vs ∧ te σ2 H2 Nx)
    (hQ : ∀ H', Ext Ps H H' → Q (.bl true) H') : tLockE (tQuant K p1 false (iKeys (tVar 0)) g te vs) σ H Q := by
  refine ⟨d, _, hd, trivial, fun od => ?_⟩
  have nT : ∀ ps, HO.dK kvs ≠ .tbl ps := fun _ z => by cases z
  have t0 : Tabs Ps (upd H d (.frz od (.dK kvs))) := tabs_upd ht (notPs' ht hd nT)
  refine ⟨_, h0, d, od, rfl, .inl ⟨kvs, upd_same, t0 _ hp, fun H2 hT => ?_⟩⟩
  exact all_keys (fun H' => Ext Ps (upd H d (.frz od (.dK kvs))) H') (Ext.tabbed hp hT) (fun H' e => e.lockd ht hd nT) (fun i k v H1 Nx hk e hN => hs od i k v H1 Nx hk e t0 hN)
    fun H' e => ⟨e.lockd ht hd nT, hQ _ (e.unlock hd nT)⟩
abbrev sIsTree : Stmt := top 9
theorem scIsTree : FnScope ["value", "node", "other"] ["value"] (defScope sIsTree) := ⟨rfl, rfl, rfl, by decide +kernel, rfl, by decide +kernel, by decide +kernel⟩
def spIsTree (Ps : List Addr) : Sp := fun vs H Q _ => ∃ (d : Addr) (t : List Row), vs = [.ref d] ∧ H d = some (.dK (kvsOf t)) ∧ RowsAt H t ∧ OkTree t ∧ Tabs Ps H ∧ ∀ H', Ext Ps H H' → Q (.bl true) H'
section
variable {P : Program} {w : World} {K : PySem.W.Frag} {mg : Str → Option Value} {base : Heap} {f c p1 : Addr} {fd : FuncData} {Ps : List Addr}
theorem ok_isTree (F : FunD K "is_tree" "is_tree" (defArgs sIsTree) (defBody sIsTree) (defScope sIsTree) [] [] f fd) (hc : fd.code = .ref c) (TB : TabB base mg c p1) (hp : p1 ∈ Ps)
    (cN : Cal P w K mg base 2 "is_name" (spIsName Ps)) (cL : Cal P w K mg base 3 "_has_proper_list" (spHasList Ps)) (cP : Cal P w K mg base 2 "_is_one_piece_without_cycles" spPiece)
    (gI : mg "isinstance" = none) (gA : mg "all" = none) (gL : mg "len" = none) (gD : mg "dict" = none) {tk : Tok} (gM : mg "MOST_NODES" = some (.int 40 tk)) : FnOk P w K mg base CX0 5 f fd ["value"] (spIsTree Ps) := by
  refine okC F hc scIsTree (fun vs H Q E h => ?_) ?_
  · obtain ⟨d, t, rfl, _⟩ := h
    rfl
  intro A outer s H vs Q E hr h
  refine ⟨_, pss_one (ps_ret (pe_and (pe_callB call_isi rfl gI (by decide +kernel) (pa_cons (pv 0) (pa_cons (pe_bltn (u := .type "dict") (v := .ty "dict") rfl gD (by decide +kernel) rfl) pa_nil)))
      (pe_and (pe_chain op_le op_le pe_int (pe_callB call_lenD rfl gL boot_len (pa_cons (pv 0) pa_nil)) (pe_glob (v := .int 40) rfl gM ⟨_, rfl⟩))
        (pe_and (pe_lock (pe_allG (k := 3) (own := [("node", 1)]) hr rfl scIsTree.nd rfl gA TB rfl (gOk_by (N := ["value", "node", "other"]) (sc := defScope sIsTree) (by decide +kernel) rfl (by decide +kernel) rfl) (pi_keys (pv 0)) (fun s H C cl code fp A pn => pg_name (i := 1) scIsTree.nd rfl (Or.inl rfl))
          (fun s H C cl code fp A pn hr => pe_c cN hr (by decide) rfl (pa_cons (pv 1) pa_nil))))
        (pe_and (pe_lock (pe_allG (k := 3) (own := [("node", 1)]) hr rfl scIsTree.nd rfl gA TB rfl (gOk_by (N := ["value", "node", "other"]) (sc := defScope sIsTree) (by decide +kernel) rfl (by decide +kernel) rfl) (pi_keys (pv 0)) (fun s H C cl code fp A pn => pg_name (i := 1) scIsTree.nd rfl (Or.inl rfl))
          (fun s H C cl code fp A pn hr => pe_c cL hr (by decide) rfl (pa_cons (pv 0) (pa_cons (pv 1) pa_nil)))))
        (pe_and (pe_lock (pe_allG2 (k := 3) (own := [("node", 1), ("other", 2)]) (vs0 := [1]) (vs1 := [2]) (wi1 := iList K (tDGet (tVar 0) (tVar 1))) (te := tOp (rIn K false) (tVar 1) (tDGet (tVar 0) (tVar 2))) hr rfl scIsTree.nd rfl gA TB rfl (gOk_by (N := ["value", "node", "other"]) (sc := defScope sIsTree) (by decide +kernel) rfl (by decide +kernel) rfl) (pi_keys (pv 0)) (fun s H C cl code fp A pn => pg_name (i := 1) scIsTree.nd rfl (Or.inl rfl))
          (fun s H C cl code fp A pn hr => pi_list (pe_dget (hu_of hr) (pv 0) (pv 1) (fun _ _ => rfl)))
          (fun s H C cl code fp A pn => pg_name (i := 2) scIsTree.nd rfl (Or.inl rfl))
          (fun s H C cl code fp A pn hr => pe_cmpR op_in_seq (pv 1) (pe_dget (hu_of hr) (pv 0) (pv 2) (fun _ _ => rfl)) rfl)))
          (pe_one (pe_c cP hr (by decide) rfl (pa_cons (pv 0) pa_nil))))))))), ?_⟩
  obtain ⟨d, t, rfl, hd, hR, ok, ht, hQ⟩ := h
  have n1 := ok.n1
  have n40 := ok.n40
  refine ⟨_, rfl, _, _, .type "dict", .type "dict", true, rfl, .ty "dict", .base (.dK hd), kit_ty (by decide +kernel), true, rfl, iteT ?_⟩
  refine ⟨_, rfl, d, _, rfl, hd, _, _, rfl, rfl, true, congrArg V.bl (decide_eq_true (by rw [kvsOf_len]; omega)), iteT ?_⟩
  refine ⟨_, _, rfl, rfl, true, congrArg V.bl (decide_eq_true (by rw [kvsOf_len]; omega)), iteT ?_⟩
  refine quant_keys hp hd rfl ht (fun od i k v H1 Nx hk e t0 hN => ?_) fun HA eA => ⟨true, rfl, iteT ?_⟩
  · obtain ⟨r, hr, hrt, rfl, rfl⟩ := kvsOf_at hk
    exact ⟨rfl, _, rfl, r.1, rfl, ok.names r hrt, e.tabs t0, fun H' e' => hN _ (e.trans e')⟩
  have hdA := eA.get ht hd fun _ z => by cases z
  have hRA := eA.rows ht hR
  have htA := eA.tabs ht
  refine quant_keys hp hdA rfl htA (fun od i k v H1 Nx hk e t0 hN => ?_) fun HB eB => ⟨true, rfl, iteT ?_⟩
  · obtain ⟨r, hr, hrt, rfl, rfl⟩ := kvsOf_at hk
    have T1 : TreeAt H1 d t := ⟨.inr ⟨od, e.lockd htA hdA fun _ z => by cases z⟩, e.rows t0 (rows_lock hdA hRA)⟩
    exact ⟨rfl, _, rfl, _, rfl, d, t, r, rfl, T1, ok, hrt, e.tabs t0, fun H' e' => hN _ (e.trans e')⟩
  have hdB := eB.get htA hdA fun _ z => by cases z
  have hRB := eB.rows htA hRA
  have htB := eB.tabs htA
  have nT : ∀ ps, HO.dK (kvsOf t) ≠ .tbl ps := fun _ z => by cases z
  refine ⟨d, _, hdB, trivial, fun od => ?_⟩
  have t0 : Tabs Ps (upd HB d (.frz od (.dK (kvsOf t)))) := tabs_upd htB (notPs' htB hdB nT)
  refine ⟨_, rfl, d, od, rfl, .inl ⟨kvsOf t, upd_same, t0 _ hp, fun H2 hT => ?_⟩⟩
  have e2 := Ext.tabbed hp hT
  have T2 : TreeAt H2 d t := ⟨.inr ⟨od, e2.lockd htB hdB nT⟩, e2.rows t0 (rows_lock hdB hRB)⟩
  refine all_keys2 (e2.lockd htB hdB nT) (fun i => (t.getD i (Str.empty, 0, [])).2.1) (fun i => (t.getD i (Str.empty, 0, [])).2.2.map V.str) 41 (fun i => ?_) (fun i k v hk => ?_) (fun i k v hk R hR1 => ?_) ?_
  · rw [List.length_map, List.getD_eq_getElem?_getD]
    cases q : t[i]? with
    | none => exact Nat.zero_lt_succ _
    | some r => exact Nat.lt_succ_of_le (ok.deg (List.mem_of_getElem? q))
  · obtain ⟨r, hr, hrt, _, _⟩ := kvsOf_at hk
    rw [List.getD_eq_getElem?_getD, hr]
    exact T2.row hrt K
  · obtain ⟨r, hr, hrt, rfl, rfl⟩ := kvsOf_at hk
    rw [List.getD_eq_getElem?_getD, hr] at hR1
    refine hR1 _ rfl (fun R1 ⟨_, h⟩ => ⟨_, rfl, _, rfl, d, _, rfl, T2.get ok hrt, r.2.1, rfl, ⟨_, T2.row hrt K⟩, h⟩) fun j y Nx hy hN => ?_
    have hy' : (r.2.2.map V.str)[j]? = some y := hy
    rw [List.getElem?_map] at hy'
    cases q : r.2.2[j]? with
    | none => rw [q] at hy'; cases hy'
    | some z =>
      rw [q] at hy'
      cases hy'
      have hz : z ∈ r.2.2 := List.mem_of_getElem? q
      obtain ⟨s', hs', es⟩ := ok.nbs r hrt z hz
      subst es
      refine ⟨rfl, _, rfl, _, rfl, _, rfl, d, _, rfl, T2.get ok hs', s'.2.1, _, rfl, .inl (T2.row hs' K), rfl, flat_strs _, ?_⟩
      show Nx (.bl (inV (.str r.1) (s'.2.2.map V.str))) _
      rw [inV_in (ok.sym r hrt s' hs' hz)]
      exact hN
  · refine ⟨e2.lockd htB hdB nT, true, rfl, iteT ?_⟩
    have eC : Ext Ps H (upd H2 d (.dK (kvsOf t))) := eA.trans (eB.trans (e2.unlock hdB nT))
    refine ⟨_, rfl, d, t, rfl, upd_same, eC.rows ht hR, ok, fun H' hs => hQ _ (eC.trans (Ext.same hs))⟩
end
end A8
set_option Elab.async false
set_option linter.all false
set_option maxRecDepth 100000
set_option maxHeartbeats 4000000
namespace A8
open PySem PySem.Spec PyProof.Rows L2 AL
open GxR (TabB TabG Tabbed)
abbrev sCheckTree : Stmt := top 13
theorem scCheckTree : FnScope ["tree"] ["tree"] (defScope sCheckTree) := ⟨rfl, rfl, rfl, by decide +kernel, rfl, by decide +kernel, by decide +kernel⟩
def spCheckTree (Ps : List Addr) : Sp := fun vs H Q _ => ∃ (d : Addr) (t : List Row), vs = [.ref d] ∧ H d = some (.dK (kvsOf t)) ∧ RowsAt H t ∧ OkTree t ∧ Tabs Ps H ∧ ∀ H', Ext Ps H H' → Q .non H'
abbrev sIsLine : Stmt := top 18
theorem scIsLine : FnScope ["tree", "value", "entry"] ["tree", "value"] (defScope sIsLine) := ⟨rfl, rfl, rfl, by decide +kernel, rfl, by decide +kernel, by decide +kernel⟩
/-- a line of the tree -/
structure OkLine (t : List Row) (ln : List Str) : Prop where
  n1 : 1 ≤ ln.length
  n400 : ln.length ≤ 400
  nodes : ∀ y ∈ ln, ∃ r ∈ t, r.1 = y
def spIsLine (Ps : List Addr) : Sp := fun vs H Q _ => ∃ (d l : Addr) (t : List Row) (ln : List Str), vs = [.ref d, .ref l] ∧ H d = some (.dK (kvsOf t)) ∧ RowsAt H t ∧ OkTree t ∧ H l = some (.lst (ln.map V.str)) ∧ OkLine t ln ∧ Tabs Ps H ∧ ∀ H', Ext Ps H H' → Q (.bl true) H'
abbrev sCheckLine : Stmt := top 19
theorem scCheckLine : FnScope ["tree", "line"] ["tree", "line"] (defScope sCheckLine) := ⟨rfl, rfl, rfl, by decide +kernel, rfl, by decide +kernel, by decide +kernel⟩
def spCheckLine (Ps : List Addr) : Sp := fun vs H Q _ => ∃ (d l : Addr) (t : List Row) (ln : List Str), vs = [.ref d, .ref l] ∧ H d = some (.dK (kvsOf t)) ∧ RowsAt H t ∧ OkTree t ∧ H l = some (.lst (ln.map V.str)) ∧ OkLine t ln ∧ Tabs Ps H ∧ ∀ H', Ext Ps H H' → Q .non H'
section
variable {P : Program} {w : World} {K : PySem.W.Frag} {mg : Str → Option Value} {base : Heap} {f c p1 : Addr} {fd : FuncData} {Ps : List Addr}
theorem ok_checkTree (F : FunD K "check_tree" "check_tree" (defArgs sCheckTree) (defBody sCheckTree) (defScope sCheckTree) [] [] f fd) (cT : Cal P w K mg base 5 "is_tree" (spIsTree Ps)) : FnOk P w K mg base CX0 6 f fd ["tree"] (spCheckTree Ps) := by
  refine F.ok scCheckTree (fun vs H Q E h => ?_) ?_
  · obtain ⟨d, t, rfl, _⟩ := h
    rfl
  intro cdv A outer s H vs Q E hr h
  refine ⟨_, PSs.nox (pss_one (ps_if (pt_not (pt_truth (pe_c cT hr (by decide) rfl (pa_cons (pv 0) pa_nil)) (by intro _; rfl))) pss_never pss_nil)), ?_⟩
  obtain ⟨d, t, rfl, hd, hR, ok, ht, hQ⟩ := h
  exact ⟨_, rfl, d, t, rfl, hd, hR, ok, ht, fun H' e => ⟨true, rfl, iteF (hQ H' e)⟩⟩
theorem ok_isLine (F : FunD K "is_line" "is_line" (defArgs sIsLine) (defBody sIsLine) (defScope sIsLine) [] [] f fd) (hc : fd.code = .ref c) (TB : TabB base mg c p1) (hp : p1 ∈ Ps)
    (cC : Cal P w K mg base 6 "check_tree" (spCheckTree Ps)) (cN : Cal P w K mg base 1 "is_node" spIsNode)
    (gI : mg "isinstance" = none) (gA : mg "all" = none) (gL : mg "len" = none) (gD : mg "list" = none) {tk : Tok} (gM : mg "MOST_ENTRIES" = some (.int 400 tk)) : FnOk P w K mg base CX0 7 f fd ["tree", "value"] (spIsLine Ps) := by
  refine okC F hc scIsLine (fun vs H Q E h => ?_) ?_
  · obtain ⟨d, l, t, ln, rfl, _⟩ := h
    rfl
  intro A outer s H vs Q E hr h
  refine ⟨_, pss_cons (ps_expr (pe_c cC hr (by decide) rfl (pa_cons (pv 0) pa_nil))) (pss_one (ps_ret (pe_and (pe_callB call_isi rfl gI (by decide +kernel) (pa_cons (pv 1) (pa_cons (pe_bltn (u := .type "list") (v := .ty "list") rfl gD (by decide +kernel) rfl) pa_nil)))
      (pe_and (pe_chain op_le op_le pe_int (pe_callB call_len_seq rfl gL boot_len (pa_cons (pv 1) pa_nil)) (pe_glob (v := .int 400) rfl gM ⟨_, rfl⟩))
        (pe_one (pe_allG (k := 5) (own := [("entry", 2)]) hr rfl scIsLine.nd rfl gA TB rfl (gOk_by (N := ["tree", "value", "entry"]) (sc := defScope sIsLine) (by decide +kernel) rfl (by decide +kernel) rfl) (pi_list (pv 1)) (fun s H C cl code fp A pn => pg_name (i := 2) scIsLine.nd rfl (Or.inl rfl))
          (fun s H C cl code fp A pn hr => pe_c cN hr (by decide) rfl (pa_cons (pv 0) (pa_cons (pv 2) pa_nil))))))))), ?_⟩
  obtain ⟨d, l, t, ln, rfl, hd, hR, ok, hl, ol, ht, hQ⟩ := h
  have n1 := ol.n1
  have n400 := ol.n400
  refine ⟨_, rfl, d, t, rfl, hd, hR, ok, ht, fun H1 e1 => ?_⟩
  have hl1 := e1.get ht hl fun _ z => by cases z
  have ht1 := e1.tabs ht
  have hd1 := e1.get ht hd fun _ z => by cases z
  refine ⟨_, rfl, _, _, .type "list", .type "list", true, rfl, .ty "list", .base (.lst hl1), kit_ty (by decide +kernel), true, rfl, iteT ?_⟩
  refine ⟨_, rfl, l, _, rfl, .inl (.inl (.inl hl1)), _, _, rfl, rfl, true, congrArg V.bl (decide_eq_true (by rw [List.length_map]; omega)), iteT ?_⟩
  refine ⟨_, _, rfl, rfl, true, congrArg V.bl (decide_eq_true (by rw [List.length_map]; omega)), iteT ?_⟩
  refine ⟨_, rfl, l, rfl, ⟨_, .inl (.inl hl1)⟩, ht1 _ hp, fun H2 hT => ?_⟩
  have e2 := Ext.tabbed hp hT
  have hd2 := e2.get ht1 hd1 fun _ z => by cases z
  have hl2 := e2.get ht1 hl1 fun _ z => by cases z
  have hs2 : SqL K H2 l (ln.map V.str) := .inl (.inl hl2)
  refine all_list (I := fun H' => H' = H2) rfl (fun _ z => z ▸ hs2) (fun i x H3 Nx hx e hN => ?_) fun H3 e => ?_
  · subst e
    rw [List.getElem?_map] at hx
    cases q : ln[i]? with
    | none => rw [q] at hx; cases hx
    | some y =>
      rw [q] at hx
      cases hx
      obtain ⟨s', hs', es⟩ := ol.nodes y (List.mem_of_getElem? q)
      refine ⟨rfl, _, rfl, _, rfl, d, y, kvsOf t, rfl, .inl hd2, ?_⟩
      rw [← es, ok.at_ hs']
      exact hN _ rfl
  · subst e
    exact hQ _ (e1.trans e2)
theorem ok_checkLine (F : FunD K "check_line" "check_line" (defArgs sCheckLine) (defBody sCheckLine) (defScope sCheckLine) [] [] f fd) (cT : Cal P w K mg base 7 "is_line" (spIsLine Ps)) : FnOk P w K mg base CX0 8 f fd ["tree", "line"] (spCheckLine Ps) := by
  refine F.ok scCheckLine (fun vs H Q E h => ?_) ?_
  · obtain ⟨d, l, t, ln, rfl, _⟩ := h
    rfl
  intro cdv A outer s H vs Q E hr h
  refine ⟨_, PSs.nox (pss_one (ps_if (pt_not (pt_truth (pe_c cT hr (by decide) rfl (pa_cons (pv 0) (pa_cons (pv 1) pa_nil))) (by intro _; rfl))) pss_never pss_nil)), ?_⟩
  obtain ⟨d, l, t, ln, rfl, hd, hR, ok, hl, ol, ht, hQ⟩ := h
  exact ⟨_, rfl, _, rfl, d, l, t, ln, rfl, hd, hR, ok, hl, ol, ht, fun H' e => ⟨true, rfl, iteF (hQ H' e)⟩⟩
end
end A8
set_option Elab.async false
set_option linter.all false
set_option maxRecDepth 100000
set_option maxHeartbeats 4000000
namespace A8
open PySem PySem.Spec PyProof.Rows L2 AL
open GxR (TabB TabG Tabbed)
abbrev Ent := Str × Addr × List (Str × Str)
def kvT (tb : List Ent) : List (Key × V) := tb.map fun e => (Sum.inr e.1, .ref e.2.1)
/-- the directions to each node -/
structure TabAt (H : Hp) (T : Addr) (t : List Row) (tb : List Ent) : Prop where
  d : H T = some (.dK (kvT tb))
  nm : tb.map (·.1) = t.map (·.1)
  en : ∀ e ∈ tb, H e.2.1 = some (.dK (kvS e.2.2)) ∧ StepsOk t e.1 e.2.2
abbrev sTable : Stmt := top 20
theorem scTable : FnScope ["tree", "target"] ["tree"] (defScope sTable) := ⟨rfl, rfl, rfl, by decide +kernel, rfl, by decide +kernel, by decide +kernel⟩
def spTable : Sp := fun vs H Q _ => ∃ (d : Addr) (t : List Row), vs = [.ref d] ∧ H d = some (.dK (kvsOf t)) ∧ RowsAt H t ∧ OkTree t ∧ ∀ (H' : Hp) (T : Addr) (tb : List Ent), Same H H' → H T = none → TabAt H' T t tb → Q (.ref T) H'
theorem kvT_none {tb : List Ent} {x : Str} (h : x ∉ tb.map (·.1)) : valV (kvT tb) (Sum.inr x) = none := by
  cases q : valV (kvT tb) (Sum.inr x) with
  | none => rfl
  | some v =>
    have hm : (Sum.inr x : Key) ∈ (kvT tb).map (·.1) := valV_in q
    rw [kvT, List.map_map] at hm
    obtain ⟨e, he, z⟩ := List.mem_map.mp hm
    exact (h (List.mem_map.mpr ⟨e, he, Sum.inr.inj z⟩)).elim
theorem kvT_get : ∀ {tb : List Ent} {e : Ent}, e ∈ tb → (tb.map (·.1)).Nodup → valV (kvT tb) (Sum.inr e.1) = some (.ref e.2.1)
  | a :: tb, e, h, nd => by
    rw [List.map_cons, List.nodup_cons] at nd
    rcases List.mem_cons.mp h with rfl | h
    · exact valV_pos rfl
    · have ne : ¬ (Sum.inr a.1 : Key) = Sum.inr e.1 := fun z => nd.1 (by
        rw [Sum.inr.inj z]
        exact List.mem_map.mpr ⟨e, h, rfl⟩)
      exact (valV_neg (p := (Sum.inr a.1, V.ref a.2.1)) ne).trans (kvT_get h nd.2)
theorem fresh {t : List Row} (nd : (t.map (·.1)).Nodup) {i : Nat} {r : Row} (h : t[i]? = some r) : r.1 ∉ (t.take i).map (·.1) := fun z => by
  have e : t.take (i + 1) = t.take i ++ [r] := by rw [List.take_succ, h]; rfl
  have nd2 : ((t.take (i + 1)).map (·.1)).Nodup := by
    rw [List.map_take]
    exact nd.sublist (List.take_sublist _ _)
  rw [e, List.map_append, List.nodup_append] at nd2
  exact nd2.2.2 _ z _ List.mem_cons_self rfl
theorem kvS_val : ∀ {ps : List (Str × Str)} {y z : Str}, (y, z) ∈ ps → (keysS ps).Nodup → valV (kvS ps) (Sum.inr y) = some (.str z)
  | a :: ps, y, z, h, nd => by
    have nd : (a.1 :: ps.map (·.1)).Nodup := nd
    rw [List.nodup_cons] at nd
    rcases List.mem_cons.mp h with rfl | h
    · exact valV_pos rfl
    · have ne : ¬ (Sum.inr a.1 : Key) = Sum.inr y := fun w => nd.1 (by
        rw [Sum.inr.inj w]
        exact List.mem_map.mpr ⟨_, h, rfl⟩)
      exact (valV_neg (p := (Sum.inr a.1, V.str a.2)) ne).trans (kvS_val h nd.2)
section
variable {P : Program} {w : World} {K : PySem.W.Frag} {mg : Str → Option Value} {base : Heap} {f c p1 : Addr} {fd : FuncData} {Ps : List Addr}
theorem ok_table (F : FunD K "step_table" "step_table" (defArgs sTable) (defBody sTable) (defScope sTable) [] [] f fd) (cS : Cal P w K mg base 1 "steps_to" spSteps) : FnOk P w K mg base CX0 2 f fd ["tree"] spTable := by
  refine F.ok scTable (fun vs H Q E h => ?_) ?_
  · obtain ⟨d, t, rfl, _⟩ := h
    rfl
  intro cdv A outer s H vs Q E hr h
  refine ⟨_, PSs.nox (pss_one (ps_ret (pe_lock (pe_dc (own := [("target", 1)]) (g := gName 1) (tt := tYes) (tv := tCall spSteps [] E0 (tCons (tVar 0) (tCons (tVar 1) tNil))) rfl scTable.nd (pi_keys (pv 0)) (blkOk_by (N := ["tree", "target"]) (sc := defScope sTable) (by decide +kernel))
    (fun _ _ _ _ _ => pg_name (i := 1) scTable.nd rfl (Or.inl rfl)) (fun _ _ _ _ _ => pts_nil) (fun _ _ _ _ _ => pv 1) (fun _ _ _ _ _ => pe_c cS hr (by decide) rfl (pa_cons (pv 0) (pa_cons (pv 1) pa_nil))))))), ?_⟩
  obtain ⟨d, t, rfl, hd, hR, ok, hQ⟩ := h
  refine ⟨d, _, hd, trivial, fun od => ?_⟩
  have hR0 := rows_lock (u := .frz od (.dK (kvsOf t))) hd hR
  have hd0 : upd H d (.frz od (.dK (kvsOf t))) d = some (.frz od (.dK (kvsOf t))) := upd_same
  obtain ⟨H0, eH0⟩ : ∃ H0, H0 = upd H d (.frz od (.dK (kvsOf t))) := ⟨_, rfl⟩
  rw [← eH0] at hR0 hd0 ⊢
  refine ⟨_, rfl, d, od, rfl, .inl ⟨kvsOf t, hd0, fun D hD => ?_⟩⟩
  have Dd : D ≠ d := fun z => by rw [z, hd0] at hD; cases hD
  have HD : H D = none := by
    rw [eH0, upd_ne Dd] at hD
    exact hD
  have T0 : ∀ {H' : Hp}, Same H0 H' → TreeAt H' d t := fun s => ⟨.inr ⟨od, s _ _ hd0⟩, fun r hr => s _ _ (hR0 r hr)⟩
  refine dc_it walk_keys (fun i H' => ∃ tb : List Ent, Same H0 H' ∧ H' D = some (.dK (kvT tb)) ∧ tb.map (·.1) = (t.take i).map (·.1) ∧ ∀ e ∈ tb, (H' e.2.1 = some (.dK (kvS e.2.2)) ∧ StepsOk t e.1 e.2.2) ∧ e.2.1 ≠ D) ⟨[], fun b o e => ?_, upd_same, rfl, fun e he => absurd he List.not_mem_nil⟩ (fun i H' _ ⟨_, s, _⟩ => s _ _ hd0) ?_ ?_
  · rw [upd_ne (ne_of_none e hD)]
    exact e
  · rintro i x H' H'' hi ⟨tb, sm, hD', hnm, hen⟩ ⟨rfl, k, v, hk, rfl⟩
    obtain ⟨r, hr, hrt, rfl, rfl⟩ := kvsOf_at hk
    refine ⟨rfl, _, rfl, _, rfl, _, rfl, d, t, r, rfl, T0 sm, ok, hrt, fun H2 p ps hp0 hp so same => ?_⟩
    have lt : tb.length = i := by
      have := congrArg List.length hnm
      rw [List.length_map, List.length_map, List.length_take] at this
      rw [kvsOf_len] at hi
      omega
    have n40 := ok.n40
    rw [kvsOf_len] at hi
    have new : r.1 ∉ tb.map (·.1) := by
      rw [hnm]
      exact fresh ok.nodup hr
    have hpD : p ≠ D := fun z => by rw [z, hD'] at hp0; cases hp0
    refine ⟨kvT tb, Sum.inr r.1, rfl, same _ _ hD', by rw [kvT, List.length_map, lt, sizeLine_eq]; omega, tb ++ [(r.1, p, ps)], fun b o e => ?_, ?_, ?_, fun e he => ?_⟩
    · rw [upd_ne (ne_of_none e hD)]
      exact same _ _ (sm _ _ e)
    · rw [upd_same, putK_new _ (kvT_none new), kvT, kvT, List.map_append]
      rfl
    · rw [List.map_append, hnm, List.take_succ, hr, List.map_append]
      rfl
    · rcases List.mem_append.mp he with z | z
      · obtain ⟨⟨h1, h2⟩, h3⟩ := hen e z
        refine ⟨⟨?_, h2⟩, h3⟩
        rw [upd_ne h3]
        exact same _ _ h1
      · rw [List.mem_singleton.mp z]
        refine ⟨⟨?_, so⟩, hpD⟩
        rw [upd_ne hpD]
        exact hp
  · rintro H' ⟨tb, sm, hD', hnm, hen⟩
    rw [kvsOf_len, List.take_length] at hnm
    refine ⟨sm _ _ hd0, hQ _ D tb (fun b o e => ?_) HD ⟨?_, hnm, fun e he => ⟨?_, (hen e he).1.2⟩⟩⟩
    · by_cases z : b = d
      · rw [z] at e ⊢
        rw [upd_same, ← e, hd]
      · rw [upd_ne z]
        exact sm _ _ (by rw [eH0, upd_ne z]; exact e)
    · rw [upd_ne Dd]
      exact hD'
    · have h1 := (hen e he).1.1
      rw [upd_ne fun z => ?_]
      · exact h1
      · rw [z, sm _ _ hd0] at h1
        cases h1
end
end A8
set_option Elab.async false
set_option linter.all false
set_option maxRecDepth 100000
set_option maxHeartbeats 4000000
namespace A8
open PySem PySem.Spec PyProof.Rows L2 AL
open GxR (TabB TabG Tabbed)
theorem snew' {G : Hp} {x : Addr} {o : HO} (h : G x = none) : Same G (upd G x o) := fun b u e => by
  rw [upd_ne (ne_of_none e h)]
  exact e
theorem TabAt.look {H : Hp} {T : Addr} {t : List Row} {tb : List Ent} (h : TabAt H T t tb) (ok : OkTree t) {r : Row} (hr : r ∈ t) {v : Row} (hv : v ∈ t) : ∃ a, DGet H T (.str r.1) (some (.ref a)) ∧ DGet H a (.str v.1) (some (.str (dirN t v.1 r.1))) := by
  have hm : r.1 ∈ tb.map (·.1) := by
    rw [h.nm]
    exact List.mem_map.mpr ⟨r, hr, rfl⟩
  obtain ⟨e, he, ee⟩ := List.mem_map.mp hm
  obtain ⟨h1, h2⟩ := h.en e he
  obtain ⟨q, hq, eq⟩ := List.mem_map.mp (h2.all v hv)
  have hq' : (v.1, q.2) ∈ e.2.2 := by rw [← eq]; exact hq
  have h3 : StepsOk t r.1 e.2.2 := ee ▸ h2
  have dn := dirN_eq ok hr (h3.dr ok hq')
  refine ⟨e.2.1, .inl ⟨_, Sum.inr r.1, .inl h.d, rfl, ?_⟩, .inl ⟨_, Sum.inr v.1, .inl h1, rfl, ?_⟩⟩
  · rw [← ee]
    exact (kvT_get he (by rw [h.nm]; exact ok.nodup)).symm
  · rw [dn]
    exact (kvS_val hq' h2.nodup).symm
theorem TabAt.same {H H' : Hp} {T : Addr} {t : List Row} {tb : List Ent} (h : TabAt H T t tb) (s : Same H H') : TabAt H' T t tb := ⟨s _ _ h.d, h.nm, fun e he => ⟨s _ _ (h.en e he).1, (h.en e he).2⟩⟩
abbrev sViewBy : Stmt := top 21
theorem scViewBy : FnScope ["table", "line", "node", "seen", "k", "step"] ["table", "line", "node"] (defScope sViewBy) := ⟨rfl, rfl, rfl, by decide +kernel, rfl, by decide +kernel, by decide +kernel⟩
def spViewBy : Sp := fun vs H Q _ => ∃ (T l : Addr) (t : List Row) (tb : List Ent) (v : Row) (ln : List Str), vs = [.ref T, .ref l, .str v.1] ∧ TabAt H T t tb ∧ OkTree t ∧ H l = some (.lst (ln.map V.str)) ∧ OkLine t ln ∧ v ∈ t ∧
  ∀ (H' : Hp) (q : Addr), Same H H' → H q = none → H' q = some (.lst ((viewF v.1 (dirN t v.1) ln).map V.str)) → Q (.ref q) H'
section
variable {P : Program} {w : World} {K : PySem.W.Frag} {mg : Str → Option Value} {base : Heap} {f c p1 : Addr} {fd : FuncData} {Ps : List Addr}
theorem ok_viewBy (F : FunD K "view_by" "view_by" (defArgs sViewBy) (defBody sViewBy) (defScope sViewBy) [] [] f fd) (gR : mg "range" = none) (gL : mg "len" = none) : FnOk P w K mg base CX0 1 f fd ["table", "line", "node"] spViewBy := by
  refine F.ok scViewBy (fun vs H Q E h => ?_) ?_
  · obtain ⟨T, l, t, tb, v, ln, rfl, _⟩ := h
    rfl
  intro cdv A outer s H vs Q E hr h
  refine ⟨_, PSs.nox (pss_cons (ps_set (i := 3) scViewBy.nd rfl (Or.inl rfl) (pe_lst pa_nil))
    (pss_cons (ps_for PassesOwn.never rfl (pi_range2 rfl gR (pa_cons pe_int (pa_cons (pe_callB call_len_seq rfl gL boot_len (pa_cons (pv 1) pa_nil)) pa_nil))) (pg_name (i := 4) scViewBy.nd rfl (Or.inl rfl))
      (pss_cons (ps_set (i := 5) scViewBy.nd rfl (Or.inl rfl) (pe_dget (hu_of hr) (pe_dget (hu_of hr) (pv 0) (pe_ix ix_list (pv 1) (pv 4) (fun _ _ => rfl)) (fun _ _ => rfl)) (pv 2) (fun _ _ => rfl)))
      (pss_one (ps_if (PW.pt (pw_or (pt_cmpR op_eq (pv 5) (pv 2) (nomark _)) (pw_or1 (pt_cmpR op_ne (pv 5) (pe_dget (hu_of hr) (pe_dget (hu_of hr) (pv 0) (pe_ix ix_list (pv 1) (pe_op op_sub (pv 4) pe_int) (fun _ _ => rfl)) (fun _ _ => rfl)) (pv 2) (fun _ _ => rfl)) rfl))))
        (pss_one (ps_expr (pe_bm PySem.F.plainAttrs_list PySem.F.slot_list_append PySem.F.type_list_append mt_append (pv 3) (pa_cons (pv 5) pa_nil)))) pss_nil))))
    (pss_one (ps_ret (pv 3))))), ?_⟩
  obtain ⟨T, l, t, tb, v, ln, rfl, hT, ok, hl, ol, hv, hQ⟩ := h
  have n1 := ol.n1
  have n400 := ol.n400
  refine ⟨by show 0 ≤ sizeLine; exact Nat.zero_le _, fun q hq => ?_⟩
  have nodeAt : ∀ {j : Nat}, j < ln.length → ∃ r ∈ t, ln[j]? = some r.1 := fun {j} hj => by
    obtain ⟨r, hr, er⟩ := ol.nodes ln[j] (List.getElem_mem hj)
    exact ⟨r, hr, by rw [List.getElem?_eq_getElem hj, er]⟩
  have strAt : ∀ {j : Nat} {y : Str}, ln[j]? = some y → (ln.map V.str)[j]? = some (.str y) := fun h => by
    rw [List.getElem?_map, h]
    rfl
  refine ⟨_, rfl, l, _, rfl, .inl (.inl (.inl (snew' hq _ _ hl))), 1, _, rfl, ?_, ?_⟩
  · rw [List.length_map]
    omega
  have eN : (((ln.map V.str).length : Int) - 1).toNat = ln.length - 1 := by
    rw [List.length_map]
    omega
  rw [eN]
  refine for_range (lo := 1) (n := ln.length - 1) (fun i σ' H' => ∃ v4 v5, σ' = [some (.ref T), some (.ref l), some (.str v.1), some (.ref q), v4, v5] ∧ Same H H' ∧ H' q = some (.lst ((viewF v.1 (dirN t v.1) (ln.take (i + 1))).map V.str))) ⟨_, _, rfl, snew' hq, ?_⟩ ?_ ?_
  · rw [upd_same]
    cases ln with
    | nil => exact absurd n1 (by decide)
    | cons x r => rfl
  · rintro i σ' H' hi ⟨v4, v5, rfl, sm, hqq⟩
    obtain ⟨ra, hra, ea⟩ := nodeAt (j := i) (by omega)
    obtain ⟨rb, hrb, eb⟩ := nodeAt (j := i + 1) (by omega)
    have ek : (1 : Int) + (i : Int) = ((i + 1 : Nat) : Int) := by omega
    have hT' := hT.same sm
    have hl' := sm _ _ hl
    obtain ⟨ab, d1, d2⟩ := hT'.look ok hrb hv
    obtain ⟨aa, d3, d4⟩ := hT'.look ok hra hv
    have tk : ln.take (i + 1 + 1) = ln.take i ++ [ra.1] ++ [rb.1] := by rw [List.take_succ, List.take_succ, ea, eb]; rfl
    have tk1 : ln.take (i + 1) = ln.take i ++ [ra.1] := by rw [List.take_succ, ea]; rfl
    have sn := viewF_snoc v.1 (dirN t v.1) (ln.take i) ra.1 rb.1
    rw [← tk, ← tk1] at sn
    refine ⟨_, rfl, _, rfl, _, rfl, l, _, _, _, rfl, rfl, .inl (.inl hl'), by rw [ek]; exact atI_nat (strAt eb), T, _, rfl, d1, _, rfl, ab, _, rfl, d2, ?_⟩
    have put : seen1 v.1 (dirN t v.1) ra.1 rb.1 = [dirN t v.1 rb.1] → upd H' q (.lst ((viewF v.1 (dirN t v.1) (ln.take (i + 1))).map V.str ++ [.str (dirN t v.1 rb.1)])) q = some (.lst ((viewF v.1 (dirN t v.1) (ln.take (i + 1 + 1))).map V.str)) := fun e => by
      rw [upd_same, sn, e, List.map_append]
      rfl
    have sz : ((viewF v.1 (dirN t v.1) (ln.take (i + 1))).map V.str).length < sizeLine := by
      have := viewF_len v.1 (dirN t v.1) (ln.take (i + 1))
      rw [List.length_take] at this
      rw [List.length_map, sizeLine_eq]
      omega
    have keep : ∀ {o : HO}, Same H (upd H' q o) := fun b o e => by
      rw [upd_ne (ne_of_none e hq)]
      exact sm b o e
    refine ⟨_, rfl, _, rfl, rfl, _, rfl, ?_⟩
    by_cases c1 : dirN t v.1 rb.1 = v.1
    · have s1 : seen1 v.1 (dirN t v.1) ra.1 rb.1 = [dirN t v.1 rb.1] := if_pos (.inl c1)
      rw [decide_eq_true (congrArg V.str c1)]
      refine iteT ?_
      exact ⟨_, rfl, .inl ⟨rfl, _, .inl (.inl hqq)⟩, _, rfl, q, _, _, rfl, rfl, hqq, sz, _, _, rfl, keep, put s1⟩
    · rw [decide_eq_false (fun z => c1 (V.str.inj z))]
      refine iteF ?_
      have ek2 : (1 : Int) + (i : Int) - 1 = ((i : Nat) : Int) := by omega
      refine ⟨_, rfl, _, rfl, _, rfl, _, rfl, _, _, rfl, rfl, l, _, _, _, rfl, rfl, .inl (.inl hl'), by rw [ek2]; exact atI_nat (strAt ea), T, _, rfl, d3, _, rfl, aa, _, rfl, d4, rfl, _, rfl, ?_⟩
      by_cases c2 : dirN t v.1 rb.1 = dirN t v.1 ra.1
      · have s1 : seen1 v.1 (dirN t v.1) ra.1 rb.1 = [] := if_neg fun z => z.elim c1 fun w => w c2
        refine iteNS (congrArg V.str c2) ?_
        exact ⟨_, _, rfl, sm, by rw [sn, s1, List.append_nil]; exact hqq⟩
      · have s1 : seen1 v.1 (dirN t v.1) ra.1 rb.1 = [dirN t v.1 rb.1] := if_pos (.inr c2)
        rw [decide_eq_false (fun z => c2 (V.str.inj z))]
        refine iteT ?_
        exact ⟨_, rfl, .inl ⟨rfl, _, .inl (.inl hqq)⟩, _, rfl, q, _, _, rfl, rfl, hqq, sz, _, _, rfl, keep, put s1⟩
  · rintro σ' H' ⟨v4, v5, rfl, sm, hqq⟩
    have e : ln.length - 1 + 1 = ln.length := by omega
    rw [e, List.take_length] at hqq
    exact ⟨_, rfl, hQ H' q sm hq hqq⟩
end
end A8
set_option Elab.async false
set_option linter.all false
set_option maxRecDepth 100000
set_option maxHeartbeats 4000000
namespace A8
open PySem PySem.Spec PyProof.Rows L2 AL
open GxR (TabB TabG Tabbed)
abbrev sCheckNode : Stmt := top 14
theorem scCheckNode : FnScope ["tree", "node"] ["tree", "node"] (defScope sCheckNode) := ⟨rfl, rfl, rfl, by decide +kernel, rfl, by decide +kernel, by decide +kernel⟩
def spCheckNode : Sp := fun vs H Q _ => ∃ (d : Addr) (t : List Row) (v : Row), vs = [.ref d, .str v.1] ∧ Rd H d (.dK (kvsOf t)) ∧ OkTree t ∧ v ∈ t ∧ Q .non H
abbrev sView : Stmt := top 22
theorem scView : FnScope ["tree", "line", "node"] ["tree", "line", "node"] (defScope sView) := ⟨rfl, rfl, rfl, by decide +kernel, rfl, by decide +kernel, by decide +kernel⟩
noncomputable abbrev viewN (t : List Row) (v : Str) (ln : List Str) : List Str := viewF v (dirN t v) ln
def spView (Ps : List Addr) : Sp := fun vs H Q _ => ∃ (d l : Addr) (t : List Row) (ln : List Str) (v : Row), vs = [.ref d, .ref l, .str v.1] ∧ H d = some (.dK (kvsOf t)) ∧ RowsAt H t ∧ OkTree t ∧ H l = some (.lst (ln.map V.str)) ∧ OkLine t ln ∧ v ∈ t ∧ Tabs Ps H ∧
  ∀ (H' : Hp) (q : Addr), Ext Ps H H' → H q = none → H' q = some (.lst ((viewN t v.1 ln).map V.str)) → Q (.ref q) H'
abbrev sViews : Stmt := top 23
theorem scViews : FnScope ["tree", "line", "table", "node"] ["tree", "line"] (defScope sViews) := ⟨rfl, rfl, rfl, by decide +kernel, rfl, by decide +kernel, by decide +kernel⟩
def spViews (Ps : List Addr) : Sp := fun vs H Q _ => ∃ (d l : Addr) (t : List Row) (ln : List Str), vs = [.ref d, .ref l] ∧ H d = some (.dK (kvsOf t)) ∧ RowsAt H t ∧ OkTree t ∧ H l = some (.lst (ln.map V.str)) ∧ OkLine t ln ∧ Tabs Ps H ∧
  ∀ (H' : Hp) (q : Addr) (vt : List Row), Ext Ps H H' → H q = none → H' q = some (.dK (kvsOf vt)) → RowsAt H' vt → (vt.map (·.1)).Perm (t.map (·.1)) → sortedS (vt.map (·.1)) = true → (∀ e ∈ vt, e.2.2 = viewN t e.1 ln) → (vt.map (·.2.1)).Nodup → (∀ e ∈ vt, H e.2.1 = none ∧ e.2.1 ≠ q) → Q (.ref q) H'
theorem Ext.none {Ps : List Addr} {H H1 : Hp} (e : Ext Ps H H1) {q : Addr} (h : H1 q = Option.none) (ht : Tabs Ps H) : H q = Option.none := by
  cases z : H q with
  | none => rfl
  | some o =>
    by_cases m : q ∈ Ps
    · obtain ⟨ps, e1, _⟩ := e.tabs ht q m
      rw [h] at e1
      cases e1
    · have := e.kp q o z m
      rw [h] at this
      cases this
theorem kvsOf_none {vt : List Row} {x : Str} (h : x ∉ vt.map (·.1)) : valV (kvsOf vt) (Sum.inr x) = Option.none := by
  cases q : valV (kvsOf vt) (Sum.inr x) with
  | none => rfl
  | some v =>
    have hm : (Sum.inr x : Key) ∈ (kvsOf vt).map (·.1) := valV_in q
    rw [kvsOf, List.map_map] at hm
    obtain ⟨e, he, z⟩ := List.mem_map.mp hm
    exact (h (List.mem_map.mpr ⟨e, he, Sum.inr.inj z⟩)).elim
section
variable {P : Program} {w : World} {K : PySem.W.Frag} {mg : Str → Option Value} {base : Heap} {f c p1 : Addr} {fd : FuncData} {Ps : List Addr}
theorem ok_checkNode (F : FunD K "check_node" "check_node" (defArgs sCheckNode) (defBody sCheckNode) (defScope sCheckNode) [] [] f fd) (cN : Cal P w K mg base 1 "is_node" spIsNode) : FnOk P w K mg base CX0 2 f fd ["tree", "node"] spCheckNode := by
  refine F.ok scCheckNode (fun vs H Q E h => ?_) ?_
  · obtain ⟨d, t, v, rfl, _⟩ := h
    rfl
  intro cdv A outer s H vs Q E hr h
  refine ⟨_, PSs.nox (pss_one (ps_if (pt_not (pt_truth (pe_c cN hr (by decide) rfl (pa_cons (pv 0) (pa_cons (pv 1) pa_nil))) (by intro _; rfl))) pss_never pss_nil)), ?_⟩
  obtain ⟨d, t, v, rfl, hd, ok, hv, hQ⟩ := h
  refine ⟨_, rfl, _, rfl, d, v.1, _, rfl, hd, true, ?_, iteF hQ⟩
  rw [ok.at_ hv]
  rfl
theorem ok_view (F : FunD K "view" "view" (defArgs sView) (defBody sView) (defScope sView) [] [] f fd) (cL : Cal P w K mg base 8 "check_line" (spCheckLine Ps)) (cN : Cal P w K mg base 2 "check_node" spCheckNode) (cT : Cal P w K mg base 2 "step_table" spTable) (cV : Cal P w K mg base 1 "view_by" spViewBy) :
    FnOk P w K mg base CX0 9 f fd ["tree", "line", "node"] (spView Ps) := by
  refine F.ok scView (fun vs H Q E h => ?_) ?_
  · obtain ⟨d, l, t, ln, v, rfl, _⟩ := h
    rfl
  intro cdv A outer s H vs Q E hr h
  refine ⟨_, PSs.nox (pss_cons (ps_expr (pe_c cL hr (by decide) rfl (pa_cons (pv 0) (pa_cons (pv 1) pa_nil)))) (pss_cons (ps_expr (pe_c cN hr (by decide) rfl (pa_cons (pv 0) (pa_cons (pv 2) pa_nil))))
    (pss_one (ps_ret (pe_c cV hr (by decide) rfl (pa_cons (pe_c cT hr (by decide) rfl (pa_cons (pv 0) pa_nil)) (pa_cons (pv 1) (pa_cons (pv 2) pa_nil)))))))), ?_⟩
  obtain ⟨d, l, t, ln, v, rfl, hd, hR, ok, hl, ol, hv, ht, hQ⟩ := h
  refine ⟨_, rfl, _, rfl, d, l, t, ln, rfl, hd, hR, ok, hl, ol, ht, fun H1 e1 => ?_⟩
  have hd1 := e1.get ht hd fun _ z => by cases z
  have hR1 := e1.rows ht hR
  have hl1 := e1.get ht hl fun _ z => by cases z
  refine ⟨_, rfl, _, rfl, d, t, v, rfl, .inl hd1, ok, hv, ?_⟩
  refine ⟨_, rfl, d, t, rfl, hd1, hR1, ok, fun H2 T tb s2 hT0 hT => ?_⟩
  refine ⟨_, rfl, _, rfl, T, l, t, tb, v, ln, rfl, hT, ok, s2 _ _ hl1, ol, hv, fun H3 q s3 hq0 hq => ?_⟩
  have e3 : Ext Ps H H2 := e1.trans (Ext.same s2)
  exact hQ H3 q (e3.trans (Ext.same s3)) (e3.none hq0 ht) hq
theorem ok_views (F : FunD K "views" "views" (defArgs sViews) (defBody sViews) (defScope sViews) [] [] f fd) (cL : Cal P w K mg base 8 "check_line" (spCheckLine Ps)) (cT : Cal P w K mg base 2 "step_table" spTable) (cV : Cal P w K mg base 1 "view_by" spViewBy) (gS : mg "sorted" = none) :
    FnOk P w K mg base CX0 9 f fd ["tree", "line"] (spViews Ps) := by
  refine F.ok scViews (fun vs H Q E h => ?_) ?_
  · obtain ⟨d, l, t, ln, rfl, _⟩ := h
    rfl
  intro cdv A outer s H vs Q E hr h
  refine ⟨_, PSs.nox (pss_cons (ps_expr (pe_c cL hr (by decide) rfl (pa_cons (pv 0) (pa_cons (pv 1) pa_nil)))) (pss_cons (ps_set (i := 2) scViews.nd rfl (Or.inr rfl) (pe_c cT hr (by decide) rfl (pa_cons (pv 0) pa_nil)))
    (pss_one (ps_ret (pe_dc (own := [("node", 3)]) (g := gName 3) (tt := tYes) (tv := tCall spViewBy [] E0 (tCons (tVar 2) (tCons (tVar 1) (tCons (tVar 3) tNil)))) rfl scViews.nd (pi_list (pe_callB (call_sortedD rfl) rfl gS (by decide +kernel) (pa_cons (pv 0) pa_nil))) (blkOk_by (N := ["tree", "line", "table", "node"]) (sc := defScope sViews) (by decide +kernel))
      (fun _ _ _ _ _ => pg_name (i := 3) scViews.nd rfl (Or.inl rfl)) (fun _ _ _ _ _ => pts_nil) (fun _ _ _ _ _ => pv 3) (fun _ _ _ _ _ => pe_c cV hr (by decide) rfl (pa_cons (pv 2) (pa_cons (pv 1) (pa_cons (pv 3) pa_nil))))))))), ?_⟩
  obtain ⟨d, l, t, ln, rfl, hd, hR, ok, hl, ol, ht, hQ⟩ := h
  have n40 := ok.n40
  refine ⟨_, rfl, _, rfl, d, l, t, ln, rfl, hd, hR, ok, hl, ol, ht, fun H1 e1 => ?_⟩
  have hd1 := e1.get ht hd fun _ z => by cases z
  have hR1 := e1.rows ht hR
  have hl1 := e1.get ht hl fun _ z => by cases z
  refine ⟨_, rfl, d, t, rfl, hd1, hR1, ok, fun H2 T tb s2 hT0 hT => ?_⟩
  have hd2 := s2 _ _ hd1
  have hl2 := s2 _ _ hl1
  have e2 : Ext Ps H H2 := e1.trans (Ext.same s2)
  refine ⟨_, rfl, d, kvsOf t, t.map (·.1), rfl, .inl hd2, by unfold kvsOf; rw [List.map_map, List.map_map]; rfl, by rw [List.length_map]; omega, fun ys so pm hso hs0 => ?_⟩
  have s3 : Same H2 (upd H2 so (.lst (ys.map V.str))) := snew' hs0
  have hso1 : upd H2 so (.lst (ys.map V.str)) so = some (.lst (ys.map V.str)) := upd_same
  generalize upd H2 so (.lst (ys.map V.str)) = H3 at s3 hso1
  have e3 : Ext Ps H H3 := e2.trans (Ext.same s3)
  have yl : ys.length = t.length := by
    have := pm.length_eq
    rw [List.length_map] at this
    exact this
  have ynd : ys.Nodup := pm.symm.nodup ok.nodup
  refine ⟨so, rfl, ⟨_, .inl (.inl hso1)⟩, fun D hD => ?_⟩
  have hl3 := s3 _ _ hl2
  have hT3 := hT.same s3
  have eK : (ys.map V.str).length = ys.length := List.length_map _
  refine dc_it (walk_list (K := K) (a := so) (xs := ys.map V.str)) (fun i H' => ∃ vt : List Row, Same H3 H' ∧ H' D = some (.dK (kvsOf vt)) ∧ vt.map (·.1) = ys.take i ∧ (∀ e ∈ vt, H' e.2.1 = some (.lst (e.2.2.map V.str)) ∧ e.2.2 = viewN t e.1 ln ∧ H3 e.2.1 = none ∧ e.2.1 ≠ D) ∧ (vt.map (·.2.1)).Nodup)
    ⟨[], snew' hD, upd_same, rfl, fun e he => absurd he List.not_mem_nil, .nil⟩ (fun i H' _ ⟨_, s, _⟩ => .inl (.inl (s _ _ hso1))) ?_ ?_
  · rintro i x H' H'' hi ⟨vt, sm, hD', hnm, hen, hnd⟩ ⟨rfl, hx⟩
    rw [eK] at hi
    have hx' : (ys.map V.str)[i]? = some x := hx
    rw [List.getElem?_map, List.getElem?_eq_getElem hi] at hx'
    have hy : ys[i]? = some ys[i] := List.getElem?_eq_getElem hi
    obtain ⟨v, hv, ev⟩ := List.mem_map.mp (pm.subset (List.getElem_mem hi))
    rw [← ev] at hx' hy
    cases hx'
    refine ⟨rfl, _, rfl, _, rfl, _, rfl, _, rfl, T, l, t, tb, v, ln, rfl, hT3.same sm, ok, sm _ _ hl3, ol, hv, fun H4 q s4 hq0 hq => ?_⟩
    have lt : vt.length = i := by
      have := congrArg List.length hnm
      rw [List.length_map, List.length_take] at this
      omega
    have new : v.1 ∉ vt.map (·.1) := by
      rw [hnm]
      have e : ys.take (i + 1) = ys.take i ++ [v.1] := by rw [List.take_succ, hy]; rfl
      have n2 := ynd.sublist (List.take_sublist (i + 1) ys)
      rw [e, List.nodup_append] at n2
      exact fun z => n2.2.2 _ z _ List.mem_cons_self rfl
    have hqD : q ≠ D := fun z => by rw [z, hD'] at hq0; cases hq0
    refine ⟨kvsOf vt, Sum.inr v.1, rfl, s4 _ _ hD', by rw [kvsOf_len, lt, sizeLine_eq]; omega, vt ++ [(v.1, q, viewN t v.1 ln)], fun b o e => ?_, ?_, ?_, fun e he => ?_, ?_⟩
    · rw [upd_ne (ne_of_none e hD)]
      exact s4 _ _ (sm _ _ e)
    · rw [upd_same, putK_new _ (kvsOf_none new), kvsOf, kvsOf, List.map_append]
      rfl
    · rw [List.map_append, hnm, List.take_succ, hy]
      rfl
    · rcases List.mem_append.mp he with z | z
      · obtain ⟨h1, h2, h3, h4⟩ := hen e z
        refine ⟨?_, h2, h3, h4⟩
        rw [upd_ne h4]
        exact s4 _ _ h1
      · rw [List.mem_singleton.mp z]
        refine ⟨?_, rfl, sm.free hq0, hqD⟩
        rw [upd_ne hqD]
        exact hq
    · rw [List.map_append]
      refine List.nodup_append.mpr ⟨hnd, by simp, fun a ha b hb e => ?_⟩
      obtain ⟨r, hr, er⟩ := List.mem_map.mp ha
      have h1 := (hen r hr).1
      rw [er, e, show b = q from List.mem_singleton.mp hb, hq0] at h1
      cases h1
  · rintro H' ⟨vt, sm, hD', hnm, hen, hnd⟩
    rw [eK, List.take_length] at hnm
    refine hQ H' D vt (e3.trans (Ext.same sm)) (e3.none hD ht) hD' (fun r hr => (hen r hr).1) (by rw [hnm]; exact pm) (by rw [hnm]; exact hso) (fun e he => (hen e he).2.1) hnd fun e he => ⟨e3.none (hen e he).2.2.1 ht, (hen e he).2.2.2⟩
end
end A8
set_option Elab.async false
set_option linter.all false
set_option maxRecDepth 100000
set_option maxHeartbeats 4000000
namespace A8
open PySem PySem.Spec PyProof.Rows L2 AL
open GxR (TabB TabG Tabbed)
/-! ### the law's numbers -/
abbrev sPot : Stmt := top 25
theorem scPot : FnScope ["script", "k", "cell"] ["script", "k"] (defScope sPot) := ⟨rfl, rfl, rfl, by decide +kernel, rfl, by decide +kernel, by decide +kernel⟩
def spPot (K : PySem.W.Frag) : Sp := fun vs H Q _ => ∃ (a : Addr) (ns : List Int) (k : Nat), vs = [.ref a, .int k] ∧ SqL K H a (ns.map V.int) ∧ k < 100 ∧
  ∀ p x y, H p = none → 0 ≤ x → 0 ≤ y → y < 2 ^ 130 → Q (.ref p) (upd H p (.lst [.int x, .int y, .int 0]))
abbrev sTake : Stmt := top 26
theorem scTake : FnScope ["pot", "many", "found", "mixed"] ["pot", "many"] (defScope sTake) := ⟨rfl, rfl, rfl, by decide +kernel, rfl, by decide +kernel, by decide +kernel⟩
def PotAt (H : Hp) (p : Addr) (n : Nat) : Prop := ∃ x y z : Int, H p = some (.lst [.int x, .int y, .int z]) ∧ 0 ≤ x ∧ 0 ≤ y ∧ y < 2 ^ 130 ∧ 0 ≤ z ∧ z ≤ n
def spTake : Sp := fun vs H Q _ => ∃ (p : Addr) (m : Int) (n : Nat), vs = [.ref p, .int m] ∧ PotAt H p n ∧ n < 2 ^ 40 ∧ 0 < m ∧ m < 2 ^ 62 ∧
  ∀ H' i, PotAt H' p (n + 1) → (∀ b, b ≠ p → H' b = H b) → 0 ≤ i → i < m → Q (.int i) H'
section
variable {P : Program} {w : World} {K : PySem.W.Frag} {mg : Str → Option Value} {base : Heap} {f c p1 : Addr} {fd : FuncData} {Ps : List Addr}
theorem ok_pot (F : FunD K "_law_pot" "_law_pot" (defArgs sPot) (defBody sPot) (defScope sPot) [] [] f fd) (gL : mg "len" = none) (gM : mg "max" = none) : FnOk P w K mg base CX0 1 f fd ["script", "k"] (spPot K) := by
  refine F.ok scPot (fun vs H Q E h => ?_) ?_
  · obtain ⟨a, ns, k, rfl, _⟩ := h
    rfl
  intro cdv A outer s H vs Q E hr h
  refine ⟨_, PSs.nox (pss_cons (ps_set (i := 2) scPot.nd rfl (Or.inl rfl) pe_int)
    (pss_cons (ps_if (pt_cmpR op_lt (pv 1) (pe_callB call_len_seq rfl gL boot_len (pa_cons (pv 0) pa_nil)) (nomark _)) (pss_one (ps_set (i := 2) scPot.nd rfl (Or.inl rfl) (pe_ix ix_list (pv 0) (pv 1) (fun _ _ => rfl)))) pss_nil)
    (pss_one (ps_ret (pe_lst (pa_cons (pe_callB (call_max2 rfl) rfl gM (by decide +kernel) (pa_cons pe_int (pa_cons (pe_op op_sub (pv 2) (pe_op op_pow pe_int pe_int)) pa_nil)))
      (pa_cons (pe_op op_add (pe_op op_mod (pv 2) (pe_op op_add (pe_op op_pow pe_int pe_int) pe_int)) (pe_op op_mul pe_int (pv 1))) (pa_cons pe_int pa_nil)))))))), ?_⟩
  obtain ⟨a, ns, k, rfl, hS, hk, hQ⟩ := h
  have hM : (10 : Int) ^ (37 : Int).toNat + 43 = 10000000000000000000000000000000000043 := by decide
  refine ⟨_, rfl, _, rfl, a, _, rfl, .inl hS, _, _, rfl, rfl, _, rfl, ite2 (fun hlt => ?_) (fun _ => ?_)⟩
  · have hlt' : k < ns.length := by
      have := of_decide_eq_true hlt
      rw [List.length_map] at this
      omega
    have hv : (ns.map V.int)[k]? = some (.int ns[k]) := by
      rw [List.getElem?_map, List.getElem?_eq_getElem hlt']
      rfl
    refine ⟨_, rfl, _, rfl, a, _, _, _, rfl, rfl, hS, atI_nat hv, ?_⟩
    refine ⟨_, rfl, _, _, rfl, rfl, ⟨by decide, by decide, by decide⟩, _, _, rfl, rfl, _, _, rfl, _, rfl, _, _, rfl, rfl, ⟨by decide, by decide, by decide⟩, _, _, rfl, rfl, _, _, rfl, rfl, by show (0 : Int) < _ ; rw [hM]; decide, _, rfl, _, _, rfl, rfl, .inl ⟨by decide, by decide⟩, _, _, rfl, rfl, by show 3 ≤ sizeLine; decide, fun p hp => ?_⟩
    refine hQ p _ _ hp ?_ ?_ ?_
    · split <;> omega
    · rw [hM]; omega
    · rw [hM]; omega
  · refine ⟨_, rfl, _, _, rfl, rfl, ⟨by decide, by decide, by decide⟩, _, _, rfl, rfl, _, _, rfl, _, rfl, _, _, rfl, rfl, ⟨by decide, by decide, by decide⟩, _, _, rfl, rfl, _, _, rfl, rfl, by show (0 : Int) < _ ; rw [hM]; decide, _, rfl, _, _, rfl, rfl, .inl ⟨by decide, by decide⟩, _, _, rfl, rfl, by show 3 ≤ sizeLine; decide, fun p hp => ?_⟩
    refine hQ p _ _ hp ?_ ?_ ?_
    · split <;> omega
    · rw [hM]; omega
    · rw [hM]; omega
theorem ok_take (F : FunD K "_law_take" "_law_take" (defArgs sTake) (defBody sTake) (defScope sTake) [] [] f fd) : FnOk P w K mg base CX0 1 f fd ["pot", "many"] spTake := by
  refine F.ok scTake (fun vs H Q E h => ?_) ?_
  · obtain ⟨a, ns, k, rfl, _⟩ := h
    rfl
  intro cdv A outer s H vs Q E hr h
  refine ⟨_, PSs.nox (pss_cons (ps_if (pt_cmpR op_gt (pe_ix ix_list (pv 0) pe_int (fun _ _ => rfl)) pe_int (nomark _))
      (pss_cons (ps_set (i := 2) scTake.nd rfl (Or.inl rfl) (pe_op op_mod (pe_ix ix_list (pv 0) pe_int (fun _ _ => rfl)) (pv 1)))
      (pss_cons (ps_asg (pe_op op_fdivW (pe_ix ix_list (pv 0) pe_int (fun _ _ => rfl)) (pv 1)) (pg_sub (pv 0) pe_int set_list))
      (pss_one (ps_ret (pv 2))))) pss_nil)
    (pss_cons (ps_asg (pe_op op_add (pe_ix ix_list (pv 0) pe_int (fun _ _ => rfl)) pe_int) (pg_sub (pv 0) pe_int set_list))
    (pss_cons (ps_set (i := 3) scTake.nd rfl (Or.inl rfl) (pe_op op_mod (pe_op op_powW (pe_op op_add (pe_ix ix_list (pv 0) pe_int (fun _ _ => rfl)) (pe_op op_mul pe_int (pe_ix ix_list (pv 0) pe_int (fun _ _ => rfl)))) pe_int) (pe_op op_add (pe_op op_pow pe_int pe_int) pe_int)))
    (pss_cons (ps_set (i := 3) scTake.nd rfl (Or.inl rfl) (pe_op op_mod (pe_op op_powW (pe_op op_add (pv 3) (pe_op op_mul pe_int (pe_ix ix_list (pv 0) pe_int (fun _ _ => rfl)))) pe_int) (pe_op op_add (pe_op op_pow pe_int pe_int) pe_int)))
    (pss_one (ps_ret (pe_op op_mod (pe_op op_fdivN (pv 3) pe_int) (pv 1)))))))), ?_⟩
  obtain ⟨p, m, n, rfl, ⟨x, y, z, hp, x0, y0, y1, z0, z1⟩, hn, m0, m1, hQ⟩ := h
  have hA : (10 : Int) ^ (41 : Int).toNat + 37 = 100000000000000000000000000000000000000037 := by decide
  have hB : (10 : Int) ^ (40 : Int).toNat + 121 = 10000000000000000000000000000000000000121 := by decide
  have only : ∀ {H1 : Hp} {o : HO}, (∀ b, b ≠ p → H1 b = H b) → ∀ b, b ≠ p → upd H1 p o b = H b := fun h b hb => by rw [upd_ne hb]; exact h b hb
  refine ⟨_, rfl, p, _, _, _, rfl, rfl, .inl (.inl hp), atI_nat (j := 0) rfl, _, _, rfl, rfl, _, rfl, ite2 (fun hx => ?_) (fun hx => ?_)⟩
  · have hx0 : 0 < x := of_decide_eq_true hx
    refine ⟨_, rfl, p, _, _, _, rfl, rfl, .inl (.inl hp), atI_nat (j := 0) rfl, _, rfl, _, _, rfl, rfl, m0, ?_⟩
    refine ⟨_, rfl, p, _, _, _, rfl, rfl, .inl (.inl hp), atI_nat (j := 0) rfl, _, rfl, _, _, rfl, rfl, wide_div (b := 63) m0 (by omega) (by decide) (by decide), ?_⟩
    refine ⟨_, rfl, p, _, _, 0, rfl, rfl, hp, rfl, ?_⟩
    refine ⟨_, rfl, ?_⟩
    refine hQ _ _ ⟨_, _, _, upd_same, Int.ediv_nonneg x0 (Int.le_of_lt m0), y0, y1, z0, by omega⟩ (only fun _ _ => rfl) (Int.emod_nonneg _ (by omega)) (Int.emod_lt_of_pos _ m0)
  · refine ⟨_, rfl, p, _, _, _, rfl, rfl, .inl (.inl hp), atI_nat (j := 2) rfl, _, _, rfl, rfl, _, rfl, p, _, _, 2, rfl, rfl, hp, rfl, ?_⟩
    have hp1 : upd H p (.lst [.int x, .int y, .int (z + 1)]) p = some (.lst [.int x, .int y, .int (z + 1)]) := upd_same
    obtain ⟨H1, eH⟩ : ∃ H1, H1 = upd H p (.lst [.int x, .int y, .int (z + 1)]) := ⟨_, rfl⟩
    have o1 : ∀ b, b ≠ p → H1 b = H b := by rw [eH]; exact only fun _ _ => rfl
    rw [← eH] at hp1
    rw [← show H1 = upd H p (.lst ([V.int x, V.int y, V.int z].set 2 (V.int (z + 1)))) from eH]
    have b1 : (y + 479001599 * (z + 1)).natAbs < 2 ^ 140 := by omega
    have q1 : ((Builtin.Int.intBits (y + 479001599 * (z + 1)) : Nat) : Int) * 3 ≤ 2 ^ 27 := by
      have := intBits_le b1
      omega
    refine ⟨_, rfl, p, _, _, _, rfl, rfl, .inl (.inl hp1), atI_nat (j := 1) rfl, _, rfl, p, _, _, _, rfl, rfl, .inl (.inl hp1), atI_nat (j := 2) rfl, _, _, rfl, rfl, .inl ⟨by decide, by decide⟩, _, _, rfl, rfl, _, _, rfl, rfl, ⟨by decide, q1⟩,
      _, _, rfl, rfl, ⟨by decide, by decide, by decide⟩, _, _, rfl, rfl, _, _, rfl, rfl, by show (0 : Int) < _; rw [hA]; decide, ?_⟩
    obtain ⟨m1', em⟩ : ∃ v, v = (y + 479001599 * (z + 1)) ^ (3 : Int).toNat % ((10 : Int) ^ (41 : Int).toNat + 37) := ⟨_, rfl⟩
    show gName 3 (V.int ((y + 479001599 * (z + 1)) ^ (3 : Int).toNat % ((10 : Int) ^ (41 : Int).toNat + 37))) _ _ _
    rw [← em]
    have g0 : 0 ≤ m1' := by rw [em]; exact Int.emod_nonneg _ (by rw [hA]; decide)
    have g1 : m1' < 100000000000000000000000000000000000000037 := by
      rw [em, ← hA]
      exact Int.emod_lt_of_pos _ (by rw [hA]; decide)
    have b2 : (m1' + 87178291199 * (z + 1)).natAbs < 2 ^ 140 := by omega
    have q2 : ((Builtin.Int.intBits (m1' + 87178291199 * (z + 1)) : Nat) : Int) * 3 ≤ 2 ^ 27 := by
      have := intBits_le b2
      omega
    refine ⟨_, rfl, _, rfl, p, _, _, _, rfl, rfl, .inl (.inl hp1), atI_nat (j := 2) rfl, _, _, rfl, rfl, .inl ⟨by decide, by decide⟩, _, _, rfl, rfl, _, _, rfl, rfl, ⟨by decide, q2⟩,
      _, _, rfl, rfl, ⟨by decide, by decide, by decide⟩, _, _, rfl, rfl, _, _, rfl, rfl, by show (0 : Int) < _; rw [hB]; decide, ?_⟩
    refine ⟨_, rfl, _, _, rfl, rfl, ⟨by decide, by decide⟩, _, rfl, _, _, rfl, rfl, m0, ?_⟩
    exact hQ _ _ ⟨_, _, _, hp1, x0, y0, y1, by omega, by omega⟩ o1 (Int.emod_nonneg _ (by omega)) (Int.emod_lt_of_pos _ m0)
end
end A8
set_option Elab.async false
set_option linter.all false
set_option maxRecDepth 100000
set_option maxHeartbeats 4000000
namespace A8
open PySem PySem.Spec PyProof.Rows L2 AL
open GxR (TabB TabG Tabbed)
/-- all but the pot stays -/
def Kp (p : Addr) (H H' : Hp) : Prop := ∀ b o, b ≠ p → H b = some o → H' b = some o
theorem Kp.refl {p : Addr} {H : Hp} : Kp p H H := fun _ _ _ e => e
theorem Kp.trans {p : Addr} {H H1 H2 : Hp} (a : Kp p H H1) (b : Kp p H1 H2) : Kp p H H2 := fun c o n e => b c o n (a c o n e)
theorem Kp.of {p : Addr} {H H' : Hp} (h : ∀ b, b ≠ p → H' b = H b) : Kp p H H' := fun b o n e => (h b n).trans e
theorem Kp.new {p q : Addr} {H : Hp} {o : HO} (h : H q = none) : Kp p H (upd H q o) := fun b u _ e => by rw [upd_ne (ne_of_none e h)]; exact e
theorem Kp.put {p q : Addr} {H H1 : Hp} {o : HO} (k : Kp p H H1) (h : H q = none) : Kp p H (upd H1 q o) := fun b u n e => by rw [upd_ne (ne_of_none e h)]; exact k b u n e
theorem Kp.same {p : Addr} {H H1 : Hp} (h : Same H H1) : Kp p H H1 := fun b o _ e => h b o e
theorem Kp.free {p q : Addr} {H H1 : Hp} (k : Kp p H H1) (h : H1 q = none) (n : q ≠ p) : H q = none := by
  cases z : H q with
  | none => rfl
  | some o =>
    rw [k q o n z] at h
    cases h
theorem PotAt.upd {H : Hp} {p q : Addr} {n : Nat} {o : HO} (h : PotAt H p n) (ne : p ≠ q) : PotAt (upd H q o) p n := by
  obtain ⟨x, y, z, e, r⟩ := h
  exact ⟨x, y, z, by rw [upd_ne ne]; exact e, r⟩
theorem PotAt.ne {H : Hp} {p q : Addr} {n : Nat} (h : PotAt H p n) (hq : H q = none) : q ≠ p := fun z => by
  obtain ⟨x, y, z', e, _⟩ := h
  rw [z, e] at hq
  cases hq
theorem PotAt.ne' {H : Hp} {p q : Addr} {n : Nat} {o : HO} (h : PotAt H p n) (hq : H q = some o) (no : ∀ x y z : Int, o ≠ .lst [.int x, .int y, .int z]) : q ≠ p := fun z => by
  obtain ⟨x, y, z', e, _⟩ := h
  rw [z, e] at hq
  exact no x y z' (Option.some.inj hq).symm
theorem PotAt.mono {H : Hp} {p : Addr} {n m : Nat} (h : PotAt H p n) (l : n ≤ m) : PotAt H p m := by
  obtain ⟨x, y, z, e, a, b, c, d, f⟩ := h
  exact ⟨x, y, z, e, a, b, c, d, by omega⟩
theorem erase_map {α β : Type} (f : α → β) : ∀ (l : List α) (i : Nat), (l.map f).eraseIdx i = (l.eraseIdx i).map f
  | [], _ => rfl
  | _ :: _, 0 => rfl
  | a :: l, i + 1 => congrArg (f a :: ·) (erase_map f l i)
theorem erase_perm {α : Type} : ∀ (l : List α) (i : Nat) (y : α), l[i]? = some y → (y :: l.eraseIdx i).Perm l
  | a :: l, 0, y, h => by
    have e : a = y := Option.some.inj h
    rw [e]
    exact .refl _
  | a :: l, i + 1, y, h => (List.Perm.swap a y (l.eraseIdx i)).trans ((erase_perm l i y h).cons a)
theorem names_ne_pot {xs : List Str} (x y z : Int) : HO.lst (xs.map V.str) ≠ .lst [.int x, .int y, .int z] := fun e => by
  injection e with e
  cases xs with
  | nil => cases e
  | cons a xs => injection e with e1 _; cases e1
abbrev sSome : Stmt := top 27
theorem scSome : FnScope ["pot", "things", "many", "left", "k"] ["pot", "things", "many"] (defScope sSome) := ⟨rfl, rfl, rfl, by decide +kernel, rfl, by decide +kernel, by decide +kernel⟩
def spSome (K : PySem.W.Frag) : Sp := fun vs H Q _ => ∃ (p a : Addr) (m n : Nat) (xs : List Str), vs = [.ref p, .ref a, .int m] ∧ SqL K H a (xs.map V.str) ∧ PotAt H p n ∧ n + m < 2 ^ 40 ∧ m ≤ xs.length ∧ xs.length ≤ 1000 ∧
  ∀ (H' : Hp) (q : Addr) (ys rest : List Str), Kp p H H' → H q = none → H' q = some (.lst (ys.map V.str)) → PotAt H' p (n + m) → (ys ++ rest).Perm xs → ys.length = m → Q (.ref q) H'
section
variable {P : Program} {w : World} {K : PySem.W.Frag} {mg : Str → Option Value} {base : Heap} {f c p1 : Addr} {fd : FuncData} {Ps : List Addr}
theorem ok_some (F : FunD K "_law_some" "_law_some" (defArgs sSome) (defBody sSome) (defScope sSome) [] [] f fd) (cT : Cal P w K mg base 1 "_law_take" spTake) (gL : mg "len" = none) (gS : mg "list" = none) (gR : mg "range" = none) : FnOk P w K mg base CX0 3 f fd ["pot", "things", "many"] (spSome K) := by
  refine F.ok scSome (fun vs H Q E h => ?_) ?_
  · obtain ⟨p, a, m, n, xs, rfl, _⟩ := h
    rfl
  intro cdv A outer s H vs Q E hr h
  refine ⟨_, PSs.nox (pss_cons (ps_set (i := 3) scSome.nd rfl (Or.inr rfl) (pe_callTy call_list_of rfl gS (by decide +kernel) (pa_cons (pv 1) pa_nil)))
    (pss_one (ps_ret (pe_lc (own := [("k", 4)]) (g := gName 4) (tt := tYes) (te := tBM K "list" rPopAt (tVar 3) (tCons (tCall spTake [] E0 (tCons (tVar 0) (tCons (tCB (rLenQ K) (tCons (tVar 3) tNil)) tNil))) tNil)) rfl scSome.nd (pi_range1 rfl gR (pa_cons (pv 2) pa_nil)) (blkOk_by (N := ["pot", "things", "many", "left", "k"]) (sc := defScope sSome) (by decide +kernel))
      (fun _ _ _ _ _ => pg_name (i := 4) scSome.nd rfl (Or.inl rfl)) (fun _ _ _ _ _ => pts_nil)
      (fun _ _ _ _ _ => pe_bm PySem.F.plainAttrs_list PySem.F.slot_list_pop PySem.F.type_list_pop mt_popAt (pv 3) (pa_cons (pe_c cT hr (by decide) rfl (pa_cons (pv 0) (pa_cons (pe_callB call_len_seq rfl gL boot_len (pa_cons (pv 3) pa_nil)) pa_nil))) pa_nil)))))), ?_⟩
  obtain ⟨p, a, m, n, xs, rfl, hS, hP, hn, hm, h1000, hQ⟩ := h
  refine ⟨_, rfl, a, _, rfl, .inl hS, fun L hL => ?_⟩
  have Lp : L ≠ p := hP.ne hL
  have hP1 : PotAt (upd H L (.lst (xs.map V.str))) p n := hP.upd (Ne.symm Lp)
  have k1 : Kp p H (upd H L (.lst (xs.map V.str))) := .new hL
  have hL1 : upd H L (.lst (xs.map V.str)) L = some (.lst (xs.map V.str)) := upd_same
  generalize upd H L (.lst (xs.map V.str)) = H1 at hP1 k1 hL1
  refine ⟨_, rfl, (m : Int), rfl, by omega, by omega, fun D hD => ?_⟩
  have Dp : D ≠ p := hP1.ne hD
  have DL : D ≠ L := fun z => by rw [z, hL1] at hD; cases hD
  have HD : H D = none := k1.free hD Dp
  refine lc_range (lo := 0) (n := (m : Int).toNat) (fun i H' => ∃ ys rest : List Str, Kp p H H' ∧ H' D = some (.lst (ys.map V.str)) ∧ H' L = some (.lst (rest.map V.str)) ∧ PotAt H' p (n + i) ∧ (ys ++ rest).Perm xs ∧ ys.length = i)
    ⟨[], xs, k1.put HD, upd_same, by rw [upd_ne (Ne.symm DL)]; exact hL1, hP1.upd (Ne.symm Dp), .refl _, rfl⟩ ?_ ?_
  · rintro i H' hi ⟨ys, rest, k, hd, hl, hp, pm, le⟩
    have hi' : i < m := by omega
    have hlen : ys.length + rest.length = xs.length := by
      have := pm.length_eq
      rw [List.length_append] at this
      exact this
    refine ⟨rfl, _, rfl, .inl ⟨rfl, _, .inl (.inl hl)⟩, _, rfl, _, rfl, L, _, rfl, .inl (.inl (.inl hl)), p, _, n + i, rfl, hp, by omega, ?_, ?_, fun H2 j hp2 only j0 j1 => ?_⟩
    · rw [List.length_map]; omega
    · rw [List.length_map]; omega
    · have hl2 : H2 L = some (.lst (rest.map V.str)) := (only L Lp).trans hl
      have hd2 : H2 D = some (.lst (ys.map V.str)) := (only D Dp).trans hd
      rw [List.length_map] at j1
      obtain ⟨jn, rfl⟩ : ∃ jn : Nat, j = jn := ⟨j.toNat, (Int.toNat_of_nonneg j0).symm⟩
      have jl : jn < rest.length := by omega
      obtain ⟨y, hy⟩ : ∃ y, rest[jn]? = some y := ⟨_, List.getElem?_eq_getElem jl⟩
      refine ⟨L, rest.map V.str, jn, jn, .str y, rfl, rfl, hl2, by omega, by omega, ?_, by rw [List.getElem?_map, hy]; rfl, ?_⟩
      · exact (ixN_seq (show ixN (rest.map V.str).length (jn : Int) = some jn from by
          unfold ixN
          rw [if_pos (by omega), if_pos (by rw [List.length_map]; omega), Int.toNat_natCast])).1
      · rw [erase_map]
        refine ⟨ys.map V.str, by rw [upd_ne DL]; exact hd2, by rw [List.length_map, sizeLine_eq]; omega, ys ++ [y], rest.eraseIdx jn, ?_, ?_, ?_, ?_, ?_, ?_⟩
        · exact ((k.trans (Kp.of only)).put hL).put HD
        · rw [upd_same, List.map_append]
          rfl
        · rw [upd_ne (Ne.symm DL)]
          exact upd_same
        · exact (hp2.upd (Ne.symm Lp)).upd (Ne.symm Dp)
        · rw [List.append_assoc]
          exact ((erase_perm rest jn y hy).append_left ys).trans pm
        · rw [List.length_append, le]
          rfl
  · rintro H' ⟨ys, rest, k, hd, hl, hp, pm, le⟩
    rw [Int.toNat_natCast] at hp le
    exact hQ H' D ys rest k HD hd hp pm le
end
end A8
set_option Elab.async false
set_option linter.all false
set_option maxRecDepth 100000
set_option maxHeartbeats 4000000
namespace A8
open PySem PySem.Spec PyProof.Rows L2 AL
open GxR (TabB TabG Tabbed)
abbrev sSizes : Stmt := top 30
theorem scSizes : FnScope ["pot", "k", "rare"] ["pot", "k"] (defScope sSizes) := ⟨rfl, rfl, rfl, by decide +kernel, rfl, by decide +kernel, by decide +kernel⟩
def spSizes : Sp := fun vs H Q _ => ∃ (p : Addr) (k : Int) (n : Nat), vs = [.ref p, .int k] ∧ PotAt H p n ∧ n + 10 < 2 ^ 40 ∧
  ∀ (H' : Hp) (q : Addr) (a b : Nat), Kp p H H' → H' q = some (.tup [.int a, .int b]) → PotAt H' p (n + 10) → 1 ≤ a → a ≤ 40 → 1 ≤ b → b ≤ 400 → Q (.ref q) H'
theorem at2 (a b : Int) (ha : 0 < a) (hb : 0 < b) (h : a ≤ 40) (h' : b ≤ 40) {i : Int} (i0 : 0 ≤ i) (i1 : i < 2) : ∃ m : Int, atI [V.int a, V.int b] i = some (.int m) ∧ 0 < m ∧ m ≤ 40 ∧ (m = a ∨ m = b) := by
  have : i = 0 ∨ i = 1 := by omega
  rcases this with rfl | rfl
  · exact ⟨a, rfl, ha, h, .inl rfl⟩
  · exact ⟨b, rfl, hb, h', .inr rfl⟩
section
variable {P : Program} {w : World} {K : PySem.W.Frag} {mg : Str → Option Value} {base : Heap} {f c p1 : Addr} {fd : FuncData} {Ps : List Addr}
theorem ok_sizes (F : FunD K "_law_sizes" "_law_sizes" (defArgs sSizes) (defBody sSizes) (defScope sSizes) [] [] f fd) (cT : Cal P w K mg base 1 "_law_take" spTake) : FnOk P w K mg base CX0 2 f fd ["pot", "k"] spSizes := by
  refine F.ok scSizes (fun vs H Q E h => ?_) ?_
  · obtain ⟨p, k, n, rfl, _⟩ := h
    rfl
  intro cdv A outer s H vs Q E hr h
  refine ⟨_, PSs.nox (pss_cons (ps_set (i := 2) scSizes.nd rfl (Or.inl rfl) (pe_ifExp (pt_cmpR op_eq (pv 1) pe_int (nomark _)) (pe_c cT hr (by decide) rfl (pa_cons (pv 0) (pa_cons pe_int pa_nil))) pe_int))
    (pss_cons (ps_if (pt_cmpR op_gt (pv 2) pe_int (nomark _)) (pss_one (ps_ret (pe_ix ix_list (pe_lst (pa_cons (pe_tup (pa_cons pe_int (pa_cons pe_int pa_nil)))
        (pa_cons (pe_tup (pa_cons (pe_op op_add pe_int (pe_c cT hr (by decide) rfl (pa_cons (pv 0) (pa_cons pe_int pa_nil)))) (pa_cons (pe_op op_add pe_int (pe_c cT hr (by decide) rfl (pa_cons (pv 0) (pa_cons pe_int pa_nil)))) pa_nil))) pa_nil))) (pe_op op_sub (pv 2) pe_int) (fun _ _ => rfl)))) pss_nil)
    (pss_one (ps_ret (pe_tup (pa_cons (pe_op op_add pe_int (pe_c cT hr (by decide) rfl (pa_cons (pv 0) (pa_cons (pe_ix ix_list (pe_lst (pa_cons pe_int (pa_cons pe_int pa_nil))) (pe_c cT hr (by decide) rfl (pa_cons (pv 0) (pa_cons pe_int pa_nil))) (fun _ _ => rfl)) pa_nil))))
      (pa_cons (pe_op op_add pe_int (pe_c cT hr (by decide) rfl (pa_cons (pv 0) (pa_cons (pe_ix ix_list (pe_lst (pa_cons pe_int (pa_cons pe_int pa_nil))) (pe_c cT hr (by decide) rfl (pa_cons (pv 0) (pa_cons pe_int pa_nil))) (fun _ _ => rfl)) pa_nil)))) pa_nil))))))), ?_⟩
  obtain ⟨p, k, n, rfl, hP, hn, hQ⟩ := h
  refine seq_asg (fun v H1 => ∃ r : Int, v = .int r ∧ 0 ≤ r ∧ r < 12 ∧ Kp p H H1 ∧ PotAt H1 p (n + 1)) (fun Q' hQ' => ?_) ?_
  · refine ⟨_, rfl, rfl, _, rfl, ite2 (fun _ => ?_) (fun _ => ?_)⟩
    · exact ⟨_, rfl, p, 12, n, rfl, hP, by omega, by decide, by decide, fun H1 i hp only i0 i1 => hQ' _ _ ⟨i, rfl, i0, i1, Kp.of only, hp⟩⟩
    · exact hQ' _ _ ⟨0, rfl, by decide, by decide, .refl, hP.mono (by omega)⟩
  rintro v H1 ⟨r, rfl, r0, r12, k1, hP1⟩
  refine ⟨_, rfl, _, _, rfl, rfl, _, rfl, ite2 (fun hx => ?_) (fun hx => ?_)⟩
  · have hx' : 9 < r := of_decide_eq_true hx
    refine ⟨by show 2 ≤ sizeLine; decide, fun t0 ht0 => ?_⟩
    have t0p : t0 ≠ p := hP1.ne ht0
    refine ⟨_, rfl, p, 27, n + 1, rfl, hP1.upd (Ne.symm t0p), by omega, by decide, by decide, fun H2 i hp2 only2 i0 i1 => ?_⟩
    refine ⟨_, _, rfl, rfl, _, rfl, p, 359, n + 2, rfl, hp2, by omega, by decide, by decide, fun H3 j hp3 only3 j0 j1 => ?_⟩
    refine ⟨_, _, rfl, rfl, by show 2 ≤ sizeLine; decide, fun t1 ht1 => ⟨by show 2 ≤ sizeLine; decide, fun l hl => ?_⟩⟩
    have t1p : t1 ≠ p := hp3.ne ht1
    have lt1 : l ≠ t1 := fun z => by rw [z, upd_same] at hl; cases hl
    have hl3 : H3 l = none := by rw [upd_ne lt1] at hl; exact hl
    have lp : l ≠ p := hp3.ne hl3
    have e3 : H3 t0 = some (.tup [.int 40, .int 400]) := by
      rw [only3 t0 t0p, only2 t0 t0p]
      exact upd_same
    have kk : Kp p H H3 := k1.trans ((Kp.new ht0).trans ((Kp.of only2).trans (Kp.of only3)))
    have k4 : Kp p H3 (upd (upd H3 t1 (.tup [.int (13 + i), .int (41 + j)])) l (.lst [.ref t0, .ref t1])) := (Kp.new ht1).put hl3
    have e4 := k4 t0 _ t0p e3
    have e5 : upd (upd H3 t1 (.tup [.int (13 + i), .int (41 + j)])) l (.lst [.ref t0, .ref t1]) t1 = some (.tup [.int (13 + i), .int (41 + j)]) := by
      rw [upd_ne (Ne.symm lt1)]
      exact upd_same
    have hp5 : PotAt (upd (upd H3 t1 (.tup [.int (13 + i), .int (41 + j)])) l (.lst [.ref t0, .ref t1])) p (n + 10) := ((hp3.upd (Ne.symm t1p)).upd (Ne.symm lp)).mono (by omega)
    have rr : r = 10 ∨ r = 11 := by omega
    rcases rr with rfl | rfl
    · refine ⟨_, rfl, _, _, rfl, rfl, l, _, _, _, rfl, rfl, .inl (.inl upd_same), rfl, ?_⟩
      exact hQ _ t0 40 400 (kk.trans k4) e4 hp5 (by decide) (by decide) (by decide) (by decide)
    · refine ⟨_, rfl, _, _, rfl, rfl, l, _, _, _, rfl, rfl, .inl (.inl upd_same), rfl, ?_⟩
      refine hQ _ t1 (13 + i).toNat (41 + j).toNat (kk.trans k4) ?_ hp5 (by omega) (by omega) (by omega) (by omega)
      rw [Int.toNat_of_nonneg (by omega), Int.toNat_of_nonneg (by omega)]
      exact e5
  · refine ⟨_, rfl, by show 2 ≤ sizeLine; decide, fun l1 hl1 => ⟨_, rfl, p, 2, n + 1, rfl, ?_, by omega, by decide, by decide, fun H2 i hp2 only2 i0 i1 => ?_⟩⟩
    · exact hP1.upd (Ne.symm (hP1.ne hl1))
    have l1p := hP1.ne hl1
    obtain ⟨m, em, m0, m40, mor⟩ := at2 4 12 (by decide) (by decide) (by decide) (by decide) i0 i1
    refine ⟨l1, _, _, _, rfl, rfl, .inl (.inl (by rw [only2 l1 l1p]; exact upd_same)), em, p, m, n + 2, rfl, hp2, by omega, m0, by omega, fun H3 j hp3 only3 j0 j1 => ⟨_, _, rfl, rfl, ?_⟩⟩
    have k3 : Kp p H H3 := k1.trans ((Kp.new hl1).trans ((Kp.of only2).trans (Kp.of only3)))
    refine ⟨_, rfl, by show 2 ≤ sizeLine; decide, fun l2 hl2 => ⟨_, rfl, p, 2, n + 3, rfl, ?_, by omega, by decide, by decide, fun H4 i' hp4 only4 i0' i1' => ?_⟩⟩
    · exact hp3.upd (Ne.symm (hp3.ne hl2))
    have l2p := hp3.ne hl2
    obtain ⟨m', em', m0', m40', mor'⟩ := at2 6 40 (by decide) (by decide) (by decide) (by decide) i0' i1'
    refine ⟨l2, _, _, _, rfl, rfl, .inl (.inl (by rw [only4 l2 l2p]; exact upd_same)), em', p, m', n + 4, rfl, hp4, by omega, m0', by omega, fun H5 j' hp5 only5 j0' j1' => ⟨_, _, rfl, rfl, ?_⟩⟩
    have k5 : Kp p H H5 := k3.trans ((Kp.new hl2).trans ((Kp.of only4).trans (Kp.of only5)))
    refine ⟨by show 2 ≤ sizeLine; decide, fun t ht => ?_⟩
    refine hQ _ t (1 + j).toNat (1 + j').toNat (k5.trans (Kp.new ht)) ?_ ((hp5.upd (Ne.symm (hp5.ne ht))).mono (by omega)) (by omega) (by omega) (by omega) (by omega)
    rw [Int.toNat_of_nonneg (by omega), Int.toNat_of_nonneg (by omega)]
    exact upd_same
end
end A8
set_option Elab.async false
set_option linter.all false
set_option maxRecDepth 100000
set_option maxHeartbeats 4000000
namespace A8
open PySem PySem.Spec PyProof.Rows L2 AL
open GxR (TabB TabG Tabbed)
abbrev sLine : Stmt := top 29
theorem scLine : FnScope ["pot", "tree", "many", "few", "way", "found", "k", "choices"] ["pot", "tree", "many"] (defScope sLine) := ⟨rfl, rfl, rfl, by decide +kernel, rfl, by decide +kernel, by decide +kernel⟩
def spLine : Sp := fun vs H Q _ => ∃ (p d : Addr) (e n : Nat) (t : List Row), vs = [.ref p, .ref d, .int e] ∧ H d = some (.dK (kvsOf t)) ∧ RowsAt H t ∧ OkTree t ∧ PotAt H p n ∧ n + 500 < 2 ^ 40 ∧ 1 ≤ e ∧ e ≤ 400 ∧
  ∀ (H' : Hp) (q : Addr) (ln : List Str), Kp p H H' → H q = none → H' q = some (.lst (ln.map V.str)) → ln.length = e → (∀ y ∈ ln, ∃ r ∈ t, r.1 = y) → PotAt H' p (n + 500) → Q (.ref q) H'
theorem snew {G : Hp} {x : Addr} {o : HO} (h : G x = none) : Same G (upd G x o) := fun b u e => by
  rw [upd_ne (ne_of_none e h)]
  exact e
theorem at3 (a b c : Int) (h : 1 ≤ a ∧ a ≤ 40) (h1 : 1 ≤ b ∧ b ≤ 40) (h2 : 1 ≤ c ∧ c ≤ 40) {i : Int} (i0 : 0 ≤ i) (i1 : i < 3) : ∃ m : Int, atI [V.int a, V.int b, V.int c] i = some (.int m) ∧ 1 ≤ m ∧ m ≤ 40 := by
  have : i = 0 ∨ i = 1 ∨ i = 2 := by omega
  rcases this with rfl | rfl | rfl
  · exact ⟨a, rfl, h⟩
  · exact ⟨b, rfl, h1⟩
  · exact ⟨c, rfl, h2⟩
theorem cutLast (xs : List V) (v : V) : cutV (xs ++ [v]) (some (-1)) none = [v] := by
  have e1 : HT.sIx (xs ++ [v]).length (xs ++ [v]).length none = (xs ++ [v]).length := rfl
  have e2 : HT.sIx (xs ++ [v]).length 0 (some (-1)) = xs.length := by
    show (if (-1 : Int) < 0 then ((-1 : Int) + ((xs ++ [v]).length : Int)).toNat else min (-1 : Int).toNat (xs ++ [v]).length) = xs.length
    rw [if_pos (by decide), List.length_append]
    simp only [List.length_singleton]
    omega
  unfold cutV
  rw [e1, e2, List.drop_left, List.length_append]
  exact List.take_of_length_le (by simp only [List.length_singleton]; omega)
theorem atI_of {α : Type} {xs : List α} {j : Int} (j0 : 0 ≤ j) (j1 : j < xs.length) : ∃ v, atI xs j = some v ∧ v ∈ xs := by
  obtain ⟨n, rfl⟩ : ∃ n : Nat, j = n := ⟨j.toNat, (Int.toNat_of_nonneg j0).symm⟩
  have hn : n < xs.length := by omega
  exact ⟨xs[n], atI_nat (List.getElem?_eq_getElem hn), List.getElem_mem hn⟩
theorem atI_str {xs : List Str} {j : Int} (j0 : 0 ≤ j) (j1 : j < xs.length) : ∃ y, atI (xs.map V.str) j = some (.str y) ∧ y ∈ xs := by
  obtain ⟨v, hv, hm⟩ := atI_of (xs := xs.map V.str) j0 (by rw [List.length_map]; exact j1)
  obtain ⟨y, hy, rfl⟩ := List.mem_map.mp hm
  exact ⟨y, hv, hy⟩
section
variable {P : Program} {w : World} {K : PySem.W.Frag} {mg : Str → Option Value} {base : Heap} {f c p1 : Addr} {fd : FuncData} {Ps : List Addr}
theorem ok_line (F : FunD K "_law_line" "_law_line" (defArgs sLine) (defBody sLine) (defScope sLine) [] [] f fd) (cT : Cal P w K mg base 1 "_law_take" spTake) (cS : Cal P w K mg base 3 "_law_some" (spSome K))
    (gR : mg "range" = none) (gL : mg "len" = none) (gM : mg "min" = none) (gS : mg "sorted" = none) : FnOk P w K mg base CX0 4 f fd ["pot", "tree", "many"] spLine := by
  refine F.ok scLine (fun vs H Q E h => ?_) ?_
  · obtain ⟨p, d, e, n, t, rfl, _⟩ := h
    rfl
  intro cdv A outer s H vs Q E hr h
  refine ⟨_, PSs.nox (pss_cons (ps_set (i := 3) scLine.nd rfl (Or.inl rfl) (pe_c cS hr (by decide) rfl (pa_cons (pv 0) (pa_cons (pe_callB (call_sortedD rfl) rfl gS (by decide +kernel) (pa_cons (pv 1) pa_nil))
      (pa_cons (pe_callB (call_min2 rfl) rfl gM (by decide +kernel) (pa_cons (pe_callB call_lenD rfl gL boot_len (pa_cons (pv 1) pa_nil)) (pa_cons (pe_ix ix_list (pe_lst (pa_cons pe_int (pa_cons pe_int (pa_cons pe_int pa_nil)))) (pe_c cT hr (by decide) rfl (pa_cons (pv 0) (pa_cons pe_int pa_nil))) (fun _ _ => rfl)) pa_nil))) pa_nil)))))
    (pss_cons (ps_par (i := 4) (j := 5) rfl scLine.nd rfl rfl (by decide) rfl rfl (pa_cons (pe_c cT hr (by decide) rfl (pa_cons (pv 0) (pa_cons pe_int pa_nil))) (pa_cons (pe_lst (pa_cons (pe_ix ix_list (pv 3) (pe_c cT hr (by decide) rfl (pa_cons (pv 0) (pa_cons (pe_callB call_len_seq rfl gL boot_len (pa_cons (pv 3) pa_nil)) pa_nil))) (fun _ _ => rfl)) pa_nil)) pa_nil)) (by rfl))
    (pss_cons (ps_for PassesOwn.never rfl (pi_range1 rfl gR (pa_cons (pe_op op_sub (pv 2) pe_int) pa_nil)) (pg_name (i := 6) scLine.nd rfl (Or.inl rfl))
      (pss_cons (ps_set (i := 7) scLine.nd rfl (Or.inl rfl) (pe_ix ix_list (pe_lst (pa_cons (pv 3) (pa_cons (pe_op op_cat (pe_dget (hu_of hr) (pv 1) (pe_ix ix_list (pv 5) (pe_un un_neg pe_int) (fun _ _ => rfl)) (fun _ _ => rfl)) (pe_slice sl_list (pv 5) (po_some (pe_un un_neg pe_int)) po_none))
          (pa_cons (pe_op op_cat (pv 3) (pe_op op_rep (pe_slice sl_list (pv 5) (po_some (pe_un un_neg pe_int)) po_none) (pe_callB call_len_seq rfl gL boot_len (pa_cons (pv 3) pa_nil)))) pa_nil)))) (pv 4) (fun _ _ => rfl)))
      (pss_one (ps_expr (pe_bm PySem.F.plainAttrs_list PySem.F.slot_list_append PySem.F.type_list_append mt_append (pv 5) (pa_cons (pe_ix ix_list (pv 7) (pe_c cT hr (by decide) rfl (pa_cons (pv 0) (pa_cons (pe_callB call_len_seq rfl gL boot_len (pa_cons (pv 7) pa_nil)) pa_nil))) (fun _ _ => rfl)) pa_nil))))))
    (pss_one (ps_ret (pv 5)))))), ?_⟩
  obtain ⟨p, d, e, n, t, rfl, hd, hR, ok, hP, hn, e1, e400, hQ⟩ := h
  have dp : d ≠ p := hP.ne' hd fun _ _ _ z => by cases z
  have rp : ∀ r ∈ t, r.2.1 ≠ p := fun r hr => hP.ne' (hR r hr) names_ne_pot
  have n1 := ok.n1
  have n40 := ok.n40
  have treeOf : ∀ {H' : Hp}, Kp p H H' → H' d = some (.dK (kvsOf t)) ∧ RowsAt H' t := fun k => ⟨k d _ dp hd, fun r hr => k _ _ (rp r hr) (hR r hr)⟩
  refine seq_asg (fun v H1 => ∃ (F : Addr) (fw : List Str), v = .ref F ∧ Kp p H H1 ∧ H F = none ∧ H1 F = some (.lst (fw.map V.str)) ∧ PotAt H1 p (n + 50) ∧ fw ≠ [] ∧ fw.length ≤ 40 ∧ ∀ y ∈ fw, ∃ r ∈ t, r.1 = y) (fun Q' hQ' => ?_) ?_
  · refine ⟨_, rfl, _, rfl, d, kvsOf t, t.map (·.1), rfl, .inl hd, by unfold kvsOf; rw [List.map_map, List.map_map]; rfl, by rw [List.length_map]; omega, fun ys s0 pm so hs0 => ?_⟩
    have s0p : s0 ≠ p := hP.ne hs0
    have k1 : Kp p H (upd H s0 (.lst (ys.map V.str))) := .new hs0
    have hp1 : PotAt (upd H s0 (.lst (ys.map V.str))) p n := hP.upd (Ne.symm s0p)
    have hs1 : upd H s0 (.lst (ys.map V.str)) s0 = some (.lst (ys.map V.str)) := upd_same
    generalize upd H s0 (.lst (ys.map V.str)) = H1 at k1 hp1 hs1
    refine ⟨_, rfl, d, _, rfl, (treeOf k1).1, by show 3 ≤ sizeLine; decide, fun l1 hl1 => ⟨_, rfl, p, 3, n, rfl, hp1.upd (Ne.symm (hp1.ne hl1)), by omega, by decide, by decide, fun H2 i hp2 only2 i0 i1 => ?_⟩⟩
    have l1p := hp1.ne hl1
    obtain ⟨m, em, m1, m40⟩ := at3 40 2 3 (by decide) (by decide) (by decide) i0 i1
    have k2 : Kp p H1 H2 := (Kp.new hl1).trans (Kp.of only2)
    have yl : ys.length = t.length := by
      have := pm.length_eq
      rw [List.length_map] at this
      exact this
    refine ⟨l1, _, _, _, rfl, rfl, .inl (.inl (by rw [only2 l1 l1p]; exact upd_same)), em, _, _, rfl, ?_⟩
    obtain ⟨mm, emm⟩ : ∃ mm : Nat, (if m < ((kvsOf t).length : Int) then m else ((kvsOf t).length : Int)) = mm := ⟨_, (Int.toNat_of_nonneg (by split <;> omega)).symm⟩
    have mml : mm ≤ t.length ∧ 1 ≤ mm := by
      rw [kvsOf_len] at emm
      split at emm <;> omega
    rw [emm]
    refine ⟨p, s0, mm, n + 1, ys, rfl, .inl (.inl (k2 _ _ s0p hs1)), hp2, by omega, by omega, by omega, fun H3 F fw rest k3 hF0 hF hp3 pm3 le3 => ?_⟩
    have kk := k1.trans k2
    refine hQ' _ _ ⟨F, fw, rfl, kk.trans k3, kk.free hF0 (hp2.ne hF0), hF, hp3.mono (by omega), fun z => ?_, by omega, fun y hy => ?_⟩
    · rw [z] at le3
      simp only [List.length_nil] at le3
      omega
    · have : y ∈ ys := pm3.subset (List.mem_append_left _ hy)
      have := pm.subset this
      obtain ⟨r, hr', er⟩ := List.mem_map.mp this
      exact ⟨r, hr', er⟩
  rintro v H3 ⟨F, fw, rfl, k3, hF0, hF, hp3, fne, f40, fnodes⟩
  have Fp : F ≠ p := hp3.ne' hF names_ne_pot
  have fl : 0 < fw.length := List.length_pos_iff.mpr fne
  refine ⟨_, rfl, p, 3, n + 50, rfl, hp3, by omega, by decide, by decide, fun H4 w hp4 only4 w0 w1 => ?_⟩
  have hF4 : H4 F = some (.lst (fw.map V.str)) := (only4 F Fp).trans hF
  refine ⟨_, rfl, _, rfl, _, rfl, F, _, rfl, .inl (.inl (.inl hF4)), p, _, n + 51, rfl, hp4, by omega, by rw [List.length_map]; omega, by rw [List.length_map]; omega, fun H5 j hp5 only5 j0 j1 => ?_⟩
  rw [List.length_map] at j1
  have hF5 : H5 F = some (.lst (fw.map V.str)) := (only5 F Fp).trans hF4
  obtain ⟨y0, hy0, my0⟩ := atI_str (xs := fw) j0 j1
  refine ⟨F, _, _, _, rfl, rfl, .inl (.inl hF5), hy0, by show 1 ≤ sizeLine; decide, fun q hq => ⟨_, _, rfl, ?_⟩⟩
  have qp : q ≠ p := hp5.ne hq
  have k5 : Kp p H H5 := k3.trans ((Kp.of only4).trans (Kp.of only5))
  have hq0 : H q = none := k5.free hq qp
  refine ⟨_, rfl, _, _, rfl, rfl, ((e : Int) - 1), rfl, by omega, by omega, ?_⟩
  refine for_range (lo := 0) (n := ((e : Int) - 1).toNat) (fun i σ' H' => ∃ v6 v7 ln0 y, σ' = [some (.ref p), some (.ref d), some (.int e), some (.ref F), some (.int w), some (.ref q), v6, v7] ∧ Kp p H5 H' ∧ PotAt H' p (n + 52 + i) ∧
      H' q = some (.lst ((ln0 ++ [y]).map V.str)) ∧ ln0.length = i ∧ ∀ z ∈ ln0 ++ [y], ∃ r ∈ t, r.1 = z) ⟨_, _, [], y0, rfl, .new hq, hp5.upd (Ne.symm qp), upd_same, rfl, fun z hz => ?_⟩ ?_ ?_
  · rw [List.mem_singleton.mp hz]
    exact fnodes _ my0
  · rintro i σ' H' hi ⟨v6, v7, ln0, y, rfl, k, hp, hqq, ll, nodes⟩
    have hi' : i < e := by omega
    have hFq : H' F = some (.lst (fw.map V.str)) := k F _ Fp hF5
    obtain ⟨hd', hR'⟩ := treeOf (k5.trans k)
    have T' : TreeAt H' d t := ⟨.inl hd', hR'⟩
    obtain ⟨r, hrt, er⟩ := nodes y (List.mem_append_right _ (List.mem_singleton.mpr rfl))
    subst er
    have hqq' : H' q = some (.lst (ln0.map V.str ++ [.str r.1])) := by rw [hqq, List.map_append]; rfl
    refine seq_asg (fun v HL => ∃ (ch : Addr) (cs : List Str), v = .ref ch ∧ Same H' HL ∧ HL ch = some (.lst (cs.map V.str)) ∧ cs ≠ [] ∧ cs.length ≤ 100 ∧ ∀ z ∈ cs, ∃ r ∈ t, r.1 = z) (fun Q' hQ' => ?_) ?_
    · refine ⟨_, rfl, _, rfl, _, rfl, _, rfl, q, _, _, _, rfl, rfl, .inl (.inl hqq'), atI_last _ _, d, _, rfl, T'.get ok hrt, _, rfl, _, rfl, _, rfl, q, _, rfl, .inl (.inl hqq'), fun s1 hs1 => ?_⟩
      rw [cutLast]
      have a1 : Same H' (upd H' s1 (.lst [.str r.1])) := snew hs1
      have b1 : upd H' s1 (.lst [.str r.1]) s1 = some (.lst [.str r.1]) := upd_same
      generalize upd H' s1 (.lst [.str r.1]) = G1 at a1 b1
      refine ⟨r.2.1, s1, _, _, rfl, rfl, a1 _ _ (hR' r hrt), b1, by rw [List.length_map, sizeLine_eq]; have := ok.deg hrt; simp only [List.length_singleton]; omega, fun c1 hc1 => ?_⟩
      have a2 : Same G1 (upd G1 c1 (.lst (r.2.2.map V.str ++ [.str r.1]))) := snew hc1
      have b2 : upd G1 c1 (.lst (r.2.2.map V.str ++ [.str r.1])) c1 = some (.lst ((r.2.2 ++ [r.1]).map V.str)) := by rw [upd_same, List.map_append]; rfl
      generalize upd G1 c1 (.lst (r.2.2.map V.str ++ [.str r.1])) = G2 at a2 b2
      have a12 := a1.trans a2
      refine ⟨_, rfl, _, rfl, _, rfl, _, rfl, q, _, rfl, .inl (.inl (a12 _ _ hqq')), fun s2 hs2 => ?_⟩
      rw [cutLast]
      have a3 : Same G2 (upd G2 s2 (.lst [.str r.1])) := snew hs2
      have b3 : upd G2 s2 (.lst [.str r.1]) s2 = some (.lst [.str r.1]) := upd_same
      generalize upd G2 s2 (.lst [.str r.1]) = G3 at a3 b3
      have a13 := a12.trans a3
      refine ⟨_, rfl, F, _, rfl, .inl (.inl (.inl (a13 _ _ hFq))), s2, _, _, rfl, rfl, b3, by rw [List.length_map]; omega, by rw [List.length_map]; omega, ?_, fun r1 hr1 => ?_⟩
      · rw [List.length_map, sizeLine_eq]
        simp only [List.length_singleton]
        omega
      have er1 : (List.replicate ((fw.map V.str).length : Int).toNat [V.str r.1]).flatten = (List.replicate fw.length r.1).map V.str := by
        rw [List.length_map, Int.toNat_natCast, List.map_replicate]
        induction fw.length with
        | zero => rfl
        | succ k ih => rw [List.replicate_succ, List.flatten_cons, ih, List.replicate_succ]; rfl
      rw [er1]
      have a4 : Same G3 (upd G3 r1 (.lst ((List.replicate fw.length r.1).map V.str))) := snew hr1
      have b4 : upd G3 r1 (.lst ((List.replicate fw.length r.1).map V.str)) r1 = some (.lst ((List.replicate fw.length r.1).map V.str)) := upd_same
      generalize upd G3 r1 (.lst ((List.replicate fw.length r.1).map V.str)) = G4 at a4 b4
      have a14 := a13.trans a4
      refine ⟨F, r1, _, _, rfl, rfl, a14 _ _ hFq, b4, by rw [List.length_map, List.length_map, List.length_replicate, sizeLine_eq]; omega, fun c2 hc2 => ?_⟩
      rw [← List.map_append]
      have a5 : Same G4 (upd G4 c2 (.lst ((fw ++ List.replicate fw.length r.1).map V.str))) := snew hc2
      have b5 : upd G4 c2 (.lst ((fw ++ List.replicate fw.length r.1).map V.str)) c2 = some (.lst ((fw ++ List.replicate fw.length r.1).map V.str)) := upd_same
      generalize upd G4 c2 (.lst ((fw ++ List.replicate fw.length r.1).map V.str)) = G5 at a5 b5
      have a15 := a14.trans a5
      refine ⟨by show 3 ≤ sizeLine; decide, fun L hL => ?_⟩
      have a6 : Same G5 (upd G5 L (.lst [.ref F, .ref c1, .ref c2])) := snew hL
      have b6 : upd G5 L (.lst [.ref F, .ref c1, .ref c2]) L = some (.lst [.ref F, .ref c1, .ref c2]) := upd_same
      generalize upd G5 L (.lst [.ref F, .ref c1, .ref c2]) = G6 at a6 b6
      have a16 := a15.trans a6
      have ww : w = 0 ∨ w = 1 ∨ w = 2 := by omega
      rcases ww with rfl | rfl | rfl
      · refine ⟨_, rfl, L, _, _, .ref F, rfl, rfl, .inl (.inl b6), rfl, ?_⟩
        exact hQ' _ _ ⟨F, fw, rfl, a16, a16 _ _ hFq, fne, by omega, fnodes⟩
      · refine ⟨_, rfl, L, _, _, .ref c1, rfl, rfl, .inl (.inl b6), rfl, ?_⟩
        refine hQ' _ _ ⟨c1, r.2.2 ++ [r.1], rfl, a16, a6 _ _ (a5 _ _ (a4 _ _ (a3 _ _ b2))), by simp, ?_, fun z hz => ?_⟩
        · rw [List.length_append]
          have := ok.deg hrt
          simp only [List.length_singleton]
          omega
        · rcases List.mem_append.mp hz with z1 | z1
          · exact ok.nbs r hrt z z1
          · exact ⟨r, hrt, (List.mem_singleton.mp z1).symm⟩
      · refine ⟨_, rfl, L, _, _, .ref c2, rfl, rfl, .inl (.inl b6), rfl, ?_⟩
        refine hQ' _ _ ⟨c2, fw ++ List.replicate fw.length r.1, rfl, a16, a6 _ _ b5, by simp [fne], ?_, fun z hz => ?_⟩
        · rw [List.length_append, List.length_replicate]
          omega
        · rcases List.mem_append.mp hz with z1 | z1
          · exact fnodes z z1
          · exact ⟨r, hrt, (List.eq_of_mem_replicate z1).symm⟩
    rintro v HL ⟨ch, cs, rfl, sm, hch, cne, c100, cnodes⟩
    have hpL : PotAt HL p (n + 52 + i) := by
      obtain ⟨x, y, z, e', r'⟩ := hp
      exact ⟨x, y, z, sm _ _ e', r'⟩
    have chp : ch ≠ p := hpL.ne' hch names_ne_pot
    have qL := sm _ _ hqq
    have cl : 0 < cs.length := List.length_pos_iff.mpr cne
    refine ⟨_, rfl, .inl ⟨rfl, _, .inl (.inl qL)⟩, _, rfl, _, rfl, _, rfl, ch, _, rfl, .inl (.inl (.inl hch)), p, _, n + 52 + i, rfl, hpL, by omega, by rw [List.length_map]; omega, by rw [List.length_map]; omega, fun H7 j' hp7 only7 j0' j1' => ?_⟩
    rw [List.length_map] at j1'
    obtain ⟨y', hy', my'⟩ := atI_str (xs := cs) j0' j1'
    have q7 : H7 q = some (.lst ((ln0 ++ [r.1]).map V.str)) := (only7 q qp).trans qL
    refine ⟨ch, _, _, _, rfl, rfl, .inl (.inl ((only7 ch chp).trans hch)), hy', q, _, _, rfl, rfl, q7, by rw [List.length_map, List.length_append, sizeLine_eq]; simp only [List.length_singleton]; omega, ?_⟩
    refine ⟨_, _, ln0 ++ [r.1], y', rfl, ((k.trans (Kp.same sm)).trans (Kp.of only7)).put hq, hp7.upd (Ne.symm qp), ?_, ?_, fun z hz => ?_⟩
    · rw [upd_same, List.map_append (l₁ := ln0 ++ [r.1])]
      rfl
    · rw [List.length_append, ll]
      rfl
    · rcases List.mem_append.mp hz with z1 | z1
      · exact nodes z z1
      · rw [List.mem_singleton.mp z1]
        exact cnodes _ my'
  · rintro σ' H' ⟨v6, v7, ln0, y, rfl, k, hp, hqq, ll, nodes⟩
    refine ⟨_, rfl, hQ H' q (ln0 ++ [y]) (k5.trans k) hq0 hqq ?_ nodes (hp.mono (by omega))⟩
    rw [List.length_append, ll]
    simp only [List.length_singleton]
    omega
end
end A8
set_option Elab.async false
set_option linter.all false
set_option maxRecDepth 100000
set_option maxHeartbeats 4000000
namespace A8
open PySem PySem.Spec PyProof.Rows L2 AL
/-! ### a tree that grows by leaves -/
structure Gr (m : Nat) (adj : Nat → List Nat) : Prop where
  far : ∀ v, m < v → adj v = []
  le : ∀ v u, u ∈ adj v → u ≤ m
  sym : ∀ v u, u ∈ adj v → v ∈ adj u
  irr : ∀ v, v ∉ adj v
  nd : ∀ v, (adj v).Nodup
  sum : ((List.range (m + 1)).map fun v => (adj v).length).sum = 2 * m
  conn : ∀ S : Nat → Prop, (∀ v, S v → ∀ u ∈ adj v, S u) → ∀ v w, v ≤ m → w ≤ m → S v → S w
def addE (adj : Nat → List Nat) (k a : Nat) : Nat → List Nat := fun v => if v = k then adj v ++ [a] else if v = a then adj v ++ [k] else adj v
theorem mem_addE {adj : Nat → List Nat} {k a v u : Nat} (ne : k ≠ a) : u ∈ addE adj k a v ↔ u ∈ adj v ∨ (v = k ∧ u = a) ∨ (v = a ∧ u = k) := by
  unfold addE
  by_cases h1 : v = k
  · rw [if_pos h1, List.mem_append, List.mem_singleton]
    constructor
    · rintro (h | h)
      · exact .inl h
      · exact .inr (.inl ⟨h1, h⟩)
    · rintro (h | ⟨_, h⟩ | ⟨h, _⟩)
      · exact .inl h
      · exact .inr h
      · exact (ne (h1.symm.trans h)).elim
  · rw [if_neg h1]
    by_cases h2 : v = a
    · rw [if_pos h2, List.mem_append, List.mem_singleton]
      constructor
      · rintro (h | h)
        · exact .inl h
        · exact .inr (.inr ⟨h2, h⟩)
      · rintro (h | ⟨h, _⟩ | ⟨_, h⟩)
        · exact .inl h
        · exact (h1 h).elim
        · exact .inr h
    · rw [if_neg h2]
      constructor
      · exact .inl
      · rintro (h | ⟨h, _⟩ | ⟨h, _⟩)
        · exact h
        · exact (h1 h).elim
        · exact (h2 h).elim
theorem sum_upd (f g : Nat → Nat) (a : Nat) (h : ∀ v, v ≠ a → g v = f v) (ha : g a = f a + 1) : ∀ n, ((List.range n).map g).sum = ((List.range n).map f).sum + if a < n then 1 else 0
  | 0 => rfl
  | n + 1 => by
    rw [List.range_succ, List.map_append, List.map_append, List.sum_append_nat, List.sum_append_nat, sum_upd f g a h ha n]
    simp only [List.map_cons, List.map_nil, List.sum_cons, List.sum_nil]
    by_cases e : n = a
    · rw [e, ha, if_neg (Nat.lt_irrefl a), if_pos (Nat.lt_succ_self a)]
      omega
    · rw [h n e]
      by_cases l : a < n
      · rw [if_pos l, if_pos (by omega)]
        omega
      · rw [if_neg l, if_neg (by omega)]
        omega
theorem Gr.zero : Gr 0 fun _ => [] where
  far := fun _ _ => rfl
  le := fun _ _ h => absurd h List.not_mem_nil
  sym := fun _ _ h => absurd h List.not_mem_nil
  irr := fun _ => List.not_mem_nil
  nd := fun _ => .nil
  sum := rfl
  conn := fun S _ v w hv hw h => by
    obtain rfl : v = 0 := by omega
    obtain rfl : w = 0 := by omega
    exact h
theorem Gr.step {m a : Nat} {adj : Nat → List Nat} (g : Gr m adj) (h : a ≤ m) : Gr (m + 1) (addE adj (m + 1) a) where
  far := fun v hv => by
    unfold addE
    rw [if_neg (by omega), if_neg (by omega)]
    exact g.far v (by omega)
  le := fun v u hu => by
    rcases (mem_addE (by omega)).mp hu with q | ⟨_, q⟩ | ⟨_, q⟩
    · exact Nat.le_succ_of_le (g.le v u q)
    · omega
    · omega
  sym := fun v u hu => by
    refine (mem_addE (by omega)).mpr ?_
    rcases (mem_addE (by omega)).mp hu with q | ⟨p, q⟩ | ⟨p, q⟩
    · exact .inl (g.sym v u q)
    · exact .inr (.inr ⟨q, p⟩)
    · exact .inr (.inl ⟨q, p⟩)
  irr := fun v hu => by
    rcases (mem_addE (by omega)).mp hu with q | ⟨p, q⟩ | ⟨p, q⟩
    · exact g.irr v q
    · omega
    · omega
  nd := fun v => by
    have no : ∀ {x : Nat}, x ∉ adj v → (adj v ++ [x]).Nodup := fun hx => List.nodup_append.mpr ⟨g.nd v, by simp, fun y hy z hz e => hx (by rw [← List.mem_singleton.mp hz, ← e]; exact hy)⟩
    unfold addE
    by_cases h1 : v = m + 1
    · rw [if_pos h1]
      exact no (by rw [h1, g.far _ (Nat.lt_succ_self m)]; exact List.not_mem_nil)
    · rw [if_neg h1]
      by_cases h2 : v = a
      · rw [if_pos h2]
        exact no fun q => by
          have := g.le _ _ q
          omega
      · rw [if_neg h2]
        exact g.nd v
  sum := by
    have f1 : ∀ v, v ≠ a → (fun v => if v = a then (adj v).length + 1 else (adj v).length) v = (adj v).length := fun v hv => if_neg hv
    have s1 := sum_upd (fun v => (adj v).length) (fun v => if v = a then (adj v).length + 1 else (adj v).length) a f1 (if_pos rfl) (m + 2)
    have s2 := sum_upd (fun v => if v = a then (adj v).length + 1 else (adj v).length) (fun v => (addE adj (m + 1) a v).length) (m + 1) (fun v hv => by
      show (addE adj (m + 1) a v).length = if v = a then (adj v).length + 1 else (adj v).length
      unfold addE
      rw [if_neg hv]
      by_cases e : v = a
      · rw [if_pos e, if_pos e, List.length_append]
        rfl
      · rw [if_neg e, if_neg e]) (by
      show (addE adj (m + 1) a (m + 1)).length = (if m + 1 = a then (adj (m + 1)).length + 1 else (adj (m + 1)).length) + 1
      unfold addE
      rw [if_pos rfl, if_neg (by omega), List.length_append]
      rfl) (m + 2)
    rw [if_pos (by omega)] at s1 s2
    have s3 : ((List.range (m + 2)).map fun v => (adj v).length).sum = ((List.range (m + 1)).map fun v => (adj v).length).sum := by
      rw [List.range_succ, List.map_append, List.sum_append_nat]
      simp only [List.map_cons, List.map_nil, List.sum_cons, List.sum_nil, g.far (m + 1) (Nat.lt_succ_self m)]
      rfl
    have := g.sum
    show ((List.range (m + 2)).map fun v => (addE adj (m + 1) a v).length).sum = _
    omega
  conn := fun S hS v w hv hw hv1 => by
    have cl : ∀ v, S v → ∀ u ∈ adj v, S u := fun v hv u hu => hS v hv u ((mem_addE (by omega)).mpr (.inl hu))
    have ka : S (m + 1) → S a := fun q => hS _ q _ ((mem_addE (by omega)).mpr (.inr (.inl ⟨rfl, rfl⟩)))
    have ak : S a → S (m + 1) := fun q => hS _ q _ ((mem_addE (by omega)).mpr (.inr (.inr ⟨rfl, rfl⟩)))
    have va : S a := by
      by_cases e : v = m + 1
      · exact ka (e ▸ hv1)
      · exact g.conn S cl v a (by omega) h hv1
    by_cases e : w = m + 1
    · exact e ▸ ak va
    · exact g.conn S cl a w h (by omega) va
theorem perm_sum {l k : List Nat} (h : l.Perm k) : l.sum = k.sum := by
  induction h with
  | nil => rfl
  | cons x _ ih => rw [List.sum_cons, List.sum_cons, ih]
  | swap x y l => simp only [List.sum_cons]; omega
  | trans _ _ i1 i2 => exact i1.trans i2
abbrev nmAt (ns : List Str) (v : Nat) : Str := ns.getD v Str.empty
theorem nmAt_eq {ns : List Str} {v : Nat} (h : v < ns.length) : nmAt ns v = ns[v] := by
  rw [nmAt, List.getD_eq_getElem?_getD, List.getElem?_eq_getElem h]
  rfl
theorem nmAt_mem {ns : List Str} {v : Nat} (h : v < ns.length) : nmAt ns v ∈ ns := by
  rw [nmAt_eq h]
  exact List.getElem_mem h
theorem nmAt_inj {ns : List Str} (nd : ns.Nodup) {v u : Nat} (hv : v < ns.length) (hu : u < ns.length) (e : nmAt ns v = nmAt ns u) : v = u := by
  rw [nmAt_eq hv, nmAt_eq hu] at e
  exact (List.getElem_inj nd).mp e
theorem idx_nm {ns : List Str} (nd : ns.Nodup) {v : Nat} (hv : v < ns.length) : ns.idxOf (nmAt ns v) = v := by
  have l : ns.idxOf (nmAt ns v) < ns.length := List.idxOf_lt_length_of_mem (nmAt_mem hv)
  refine nmAt_inj nd l hv ?_
  rw [nmAt_eq l]
  exact List.getElem_idxOf l
theorem okTree_of {n : Nat} {ns : List Str} {adj : Nat → List Nat} {t : List Row} (g : Gr n adj) (hn : ns.length = n + 1) (h40 : n + 1 ≤ 40) (nd : ns.Nodup) (nok : ∀ x ∈ ns, NameOk x) (pm : (t.map (·.1)).Perm ns)
    (rows : ∀ r ∈ t, r.2.2.Perm ((adj (ns.idxOf r.1)).map (nmAt ns)) ∧ sortedS r.2.2 = true) : OkTree t := by
  have tl : t.length = n + 1 := by
    have := pm.length_eq
    rw [List.length_map] at this
    omega
  have isn : ∀ r ∈ t, ∃ v, v < ns.length ∧ r.1 = nmAt ns v ∧ ns.idxOf r.1 = v := fun r hr => by
    have hm : r.1 ∈ ns := pm.subset (List.mem_map.mpr ⟨r, hr, rfl⟩)
    have l := List.idxOf_lt_length_of_mem hm
    exact ⟨_, l, by rw [nmAt_eq l]; exact (List.getElem_idxOf l).symm, rfl⟩
  have row : ∀ v, v < ns.length → ∃ r ∈ t, r.1 = nmAt ns v := fun v hv => by
    obtain ⟨r, hr, e⟩ := List.mem_map.mp (pm.symm.subset (nmAt_mem hv))
    exact ⟨r, hr, e⟩
  have mem : ∀ r ∈ t, ∀ y, y ∈ r.2.2 ↔ ∃ u ∈ adj (ns.idxOf r.1), nmAt ns u = y := fun r hr y => by
    rw [(rows r hr).1.mem_iff, List.mem_map]
  refine ⟨by omega, by omega, fun r hr => ?_, pm.symm.nodup nd, fun r hr y hy => ?_, fun r hr hy => ?_, fun r hr => ⟨(rows r hr).2, ?_⟩, fun r hr s hs hy => ?_, ?_, fun S hS cl => ?_⟩
  · exact nok _ (pm.subset (List.mem_map.mpr ⟨r, hr, rfl⟩))
  · obtain ⟨u, hu, e⟩ := (mem r hr y).mp hy
    obtain ⟨s, hs, es⟩ := row u (by have := g.le _ _ hu; omega)
    exact ⟨s, hs, es.trans e⟩
  · obtain ⟨u, hu, e⟩ := (mem r hr _).mp hy
    obtain ⟨v, hv, e1, e2⟩ := isn r hr
    rw [e2] at hu
    have : u = v := nmAt_inj nd (by have := g.le _ _ hu; omega) hv (by rw [e, e1])
    exact g.irr v (this ▸ hu)
  · refine (rows r hr).1.symm.nodup ?_
    obtain ⟨v, hv, e1, e2⟩ := isn r hr
    rw [e2]
    exact nd_map (g.nd v) fun a ha b hb e => nmAt_inj nd (by have := g.le _ _ ha; omega) (by have := g.le _ _ hb; omega) e
  · obtain ⟨u, hu, e⟩ := (mem r hr _).mp hy
    obtain ⟨v, hv, e1, e2⟩ := isn r hr
    obtain ⟨v', hv', e1', e2'⟩ := isn s hs
    rw [e2] at hu
    have : u = v' := nmAt_inj nd (by have := g.le _ _ hu; omega) hv' (by rw [e, e1'])
    refine (mem s hs _).mpr ⟨v, ?_, e1.symm⟩
    rw [e2', ← this]
    exact g.sym v u hu
  · have e1 : t.map (fun r => r.2.2.length) = (t.map (·.1)).map fun x => (adj (ns.idxOf x)).length := by
      rw [List.map_map]
      refine List.map_congr_left fun r hr => ?_
      have := (rows r hr).1.length_eq
      rw [List.length_map] at this
      exact this
    have e2 : ns.map (fun x => (adj (ns.idxOf x)).length) = (List.range (n + 1)).map fun v => (adj v).length := by
      refine List.ext_getElem (by rw [List.length_map, List.length_map, List.length_range, hn]) fun i h1 h2 => ?_
      rw [List.length_map] at h1
      rw [List.getElem_map, List.getElem_map, List.getElem_range]
      have := idx_nm nd h1
      rw [nmAt_eq h1] at this
      rw [this]
    have e3 := perm_sum (pm.map fun x => (adj (ns.idxOf x)).length)
    have := g.sum
    rw [e1, e3, e2, this, tl]
    omega
  · obtain ⟨r, hr, h1⟩ := hS
    obtain ⟨v, hv, e1, e2⟩ := isn r hr
    intro s hs
    obtain ⟨w, hw, e3, e4⟩ := isn s hs
    rw [e3]
    refine (g.conn (fun v => v < ns.length ∧ S (nmAt ns v)) (fun v ⟨lv, hv⟩ u hu => ?_) v w (by omega) (by omega) ⟨hv, e1 ▸ h1⟩).2
    obtain ⟨r', hr', er'⟩ := row v lv
    have ei : ns.idxOf r'.1 = v := by rw [er']; exact idx_nm nd lv
    refine ⟨by have := g.le _ _ hu; omega, cl r' hr' (er' ▸ hv) _ ((mem r' hr' _).mpr ⟨u, by rw [ei]; exact hu, rfl⟩)⟩
where nd_map : ∀ {l : List Nat} {f : Nat → Str}, l.Nodup → (∀ a ∈ l, ∀ b ∈ l, f a = f b → a = b) → (l.map f).Nodup
  | [], _, _, _ => .nil
  | x :: l, f, nd, inj => by
    have n2 := List.nodup_cons.mp nd
    rw [List.map_cons, List.nodup_cons]
    refine ⟨fun h => ?_, nd_map n2.2 fun a ha b hb => inj a (List.mem_cons_of_mem _ ha) b (List.mem_cons_of_mem _ hb)⟩
    obtain ⟨y, hy, e⟩ := List.mem_map.mp h
    have := inj y (List.mem_cons_of_mem _ hy) x List.mem_cons_self e
    exact n2.1 (this ▸ hy)
end A8
set_option Elab.async false
set_option linter.all false
set_option maxRecDepth 100000
set_option maxHeartbeats 4000000
namespace A8
open PySem PySem.Spec PyProof.Rows L2 AL
open GxR (TabB TabG Tabbed)
abbrev sTree : Stmt := top 28
abbrev nTree : List Str := ["pot", "many", "letters", "words", "names", "shape", "near", "k", "at", "one", "name"]
theorem scTree : FnScope nTree ["pot", "many"] (defScope sTree) := ⟨rfl, rfl, rfl, by decide +kernel, rfl, by decide +kernel, by decide +kernel⟩
def spTree : Sp := fun vs H Q _ => ∃ (p : Addr) (m n : Nat), vs = [.ref p, .int m] ∧ PotAt H p n ∧ n + 300 < 2 ^ 40 ∧ 1 ≤ m ∧ m ≤ 40 ∧
  ∀ (H' : Hp) (d : Addr) (t : List Row), Kp p H H' → H d = none → H' d = some (.dK (kvsOf t)) → RowsAt H' t → OkTree t → t.length = m → PotAt H' p (n + 300) → Q (.ref d) H'
def letS : Str := "abcdefghijklmnopqrstuvwxyz"
def singles : List Str := letS.cps.toList.map fun c => ⟨#[c]⟩
def doubles : List Str := letS.cps.toList.map fun c => (⟨#[c]⟩ : Str) ++ ⟨#[c]⟩
def sixes : List Str := ["net", "line", "ask", "settle", "zzzzzzzz", "none"]
def wordsL : List Str := singles ++ doubles ++ sixes
def nameB (x : Str) : Bool := decide (1 ≤ x.cps.size) && decide (x.cps.size ≤ 8) && x.cps.toList.all fun c => decide (97 ≤ c) && decide (c ≤ 122)
theorem nameB_ok {x : Str} (h : nameB x = true) : NameOk x := by
  unfold nameB at h
  rw [Bool.and_eq_true, Bool.and_eq_true, decide_eq_true_eq, decide_eq_true_eq] at h
  refine ⟨h.1.1, h.1.2, fun c hc => ?_⟩
  have := List.all_eq_true.mp h.2 c hc
  rw [Bool.and_eq_true, decide_eq_true_eq, decide_eq_true_eq] at this
  exact this
theorem words_ok : ∀ x ∈ wordsL, NameOk x := fun x hx => nameB_ok (List.all_eq_true.mp (show wordsL.all nameB = true by decide +kernel) x hx)
theorem words_nd : wordsL.Nodup := by decide +kernel
theorem words_len : wordsL.length = 58 := by decide +kernel
theorem walk_str {x : Str} : Walk (Its x) x.cps.size (fun _ => True) (fun i H v H' => H' = H ∧ ∃ c, x.cps[i]? = some c ∧ v = .str ⟨#[c]⟩) := ⟨fun _ _ hi _ => hi, fun _ _ => Nat.le_refl _, fun _ _ _ _ _ _ y => y⟩
theorem mergeK_rows : ∀ {t u : List Row}, ((u ++ t).map (·.1)).Nodup → mergeK (kvsOf u) (kvsOf t) = kvsOf (u ++ t)
  | [], u, _ => by rw [List.append_nil]; rfl
  | r :: t, u, nd => by
    have hn : valV (kvsOf u) (Sum.inr r.1) = none := by
      cases q : valV (kvsOf u) (Sum.inr r.1) with
      | none => rfl
      | some v =>
        have hm : (Sum.inr r.1 : Key) ∈ (kvsOf u).map (·.1) := valV_in q
        rw [kvsOf, List.map_map] at hm
        obtain ⟨s, hs, e⟩ := List.mem_map.mp hm
        rw [List.map_append, List.nodup_append] at nd
        exact (nd.2.2 s.1 (List.mem_map.mpr ⟨s, hs, rfl⟩) r.1 List.mem_cons_self (Sum.inr.inj e)).elim
    have e1 : putK (kvsOf u) (Sum.inr r.1) (.ref r.2.1) = kvsOf (u ++ [r]) := by
      rw [putK_new _ hn, kvsOf, kvsOf, List.map_append]
      rfl
    show mergeK (putK (kvsOf u) (Sum.inr r.1) (.ref r.2.1)) (kvsOf t) = _
    rw [e1, mergeK_rows (u := u ++ [r]) (by rw [List.append_assoc]; exact nd), List.append_assoc]
    rfl
theorem mergeK_rows0 {t : List Row} (nd : (t.map (·.1)).Nodup) : mergeK [] (kvsOf t) = kvsOf t := mergeK_rows (u := []) nd
abbrev TupsAt (H : Hp) (tps : List Addr) (t : List Row) : Prop := Paired (fun a (r : Row) => H a = some (.tup [.str r.1, .ref r.2.1])) tps t
theorem TupsAt.keep {H H' : Hp} {ts : List Addr} {rs : List Row} (h : TupsAt H ts rs) (k : ∀ b xs, H b = some (.tup xs) → H' b = some (.tup xs)) : TupsAt H' ts rs := by
  unfold TupsAt at h ⊢
  induction h with
  | nil => exact .nil
  | cons h _ ih => exact .cons (k _ _ h) ih
theorem TupsAt.snoc {H : Hp} {ts : List Addr} {rs : List Row} {a : Addr} {r : Row} (h : TupsAt H ts rs) (e : H a = some (.tup [.str r.1, .ref r.2.1])) : TupsAt H (ts ++ [a]) (rs ++ [r]) := by
  unfold TupsAt at h ⊢
  induction h with
  | nil => exact .cons e .nil
  | cons h _ ih => exact .cons h ih
theorem TupsAt.len {H : Hp} {ts : List Addr} {rs : List Row} (h : TupsAt H ts rs) : ts.length = rs.length := by
  unfold TupsAt at h
  induction h with
  | nil => rfl
  | cons _ _ ih => rw [List.length_cons, List.length_cons, ih]
theorem TupsAt.pairs {K : PySem.W.Frag} {H : Hp} {ts : List Addr} {rs : List Row} (h : TupsAt H ts rs) : Paired (fun (p : Addr) (kv : Key × V) => SqT K H p [kV kv.1, kv.2]) ts (kvsOf rs) := by
  unfold TupsAt at h
  induction h with
  | nil => exact .nil
  | cons h _ ih => exact .cons (.inl (.inl h)) ih
/-- the dict of lists while it grows -/
structure Near (H : Hp) (N : Addr) (ns : List Str) (zs : List Row) (adj : Nat → List Nat) : Prop where
  d : H N = some (.dK (kvsOf zs))
  nm : zs.map (·.1) = ns
  ad : (zs.map (·.2.1)).Nodup
  at_ : ∀ v r, zs[v]? = some r → H r.2.1 = some (.lst (((adj v).map (nmAt ns)).map V.str))
theorem Near.row {H : Hp} {N : Addr} {ns : List Str} {zs : List Row} {adj : Nat → List Nat} (h : Near H N ns zs adj) {v : Nat} (hv : v < ns.length) : ∃ r, zs[v]? = some r ∧ r ∈ zs ∧ r.1 = nmAt ns v := by
  have hv' : v < zs.length := by
    rw [← h.nm, List.length_map] at hv
    exact hv
  refine ⟨zs[v], List.getElem?_eq_getElem hv', List.getElem_mem hv', ?_⟩
  have e : (zs.map (·.1))[v]? = some zs[v].1 := by rw [List.getElem?_map, List.getElem?_eq_getElem hv']; rfl
  rw [h.nm] at e
  rw [nmAt, List.getD_eq_getElem?_getD, e]
  rfl
theorem Near.get {H : Hp} {N : Addr} {ns : List Str} {zs : List Row} {adj : Nat → List Nat} (h : Near H N ns zs adj) (nd : ns.Nodup) {r : Row} (hr : r ∈ zs) : DGet H N (.str r.1) (some (.ref r.2.1)) :=
  .inl ⟨_, Sum.inr r.1, .inl h.d, rfl, (valV_row hr (by rw [h.nm]; exact nd)).symm⟩
theorem Near.addr {H : Hp} {N : Addr} {ns : List Str} {zs : List Row} {adj : Nat → List Nat} (h : Near H N ns zs adj) {v u : Nat} {r s : Row} (hr : zs[v]? = some r) (hs : zs[u]? = some s) (e : r.2.1 = s.2.1) : v = u := by
  obtain ⟨lv, ev⟩ := List.getElem?_eq_some_iff.mp hr
  obtain ⟨lu, eu⟩ := List.getElem?_eq_some_iff.mp hs
  have l1 : v < (zs.map (·.2.1)).length := by rw [List.length_map]; exact lv
  have l2 : u < (zs.map (·.2.1)).length := by rw [List.length_map]; exact lu
  refine (List.getElem_inj (h₀ := l1) (h₁ := l2) h.ad).mp ?_
  rw [List.getElem_map, List.getElem_map, ev, eu, e]
/-- one more name in the list of v -/
theorem Near.add {H : Hp} {N : Addr} {ns : List Str} {zs : List Row} {adj : Nat → List Nat} (h : Near H N ns zs adj) {v u : Nat} {r : Row} (hr : zs[v]? = some r) :
    Near (upd H r.2.1 (.lst (((adj v).map (nmAt ns)).map V.str ++ [.str (nmAt ns u)]))) N ns zs fun w => if w = v then adj w ++ [u] else adj w where
  d := by
    rw [upd_ne fun z => ?_]
    · exact h.d
    · have := h.at_ v r hr
      rw [← z, h.d] at this
      cases this
  nm := h.nm
  ad := h.ad
  at_ := fun w s hs => by
    by_cases e : w = v
    · rw [e, hr] at hs
      cases hs
      rw [e, upd_same, if_pos rfl, List.map_append, List.map_append]
      rfl
    · rw [if_neg e, upd_ne fun z => e (h.addr hs hr z)]
      exact h.at_ w s hs
theorem Near.keep {p : Addr} {H H' : Hp} {N : Addr} {ns : List Str} {zs : List Row} {adj : Nat → List Nat} {n : Nat} (h : Near H N ns zs adj) (hp : PotAt H p n) (k : Kp p H H') : Near H' N ns zs adj :=
  ⟨k _ _ (hp.ne' h.d fun _ _ _ z => by cases z) h.d, h.nm, h.ad, fun v r hr => k _ _ (hp.ne' (h.at_ v r hr) names_ne_pot) (h.at_ v r hr)⟩
theorem at_nm {ns : List Str} {v : Nat} (h : v < ns.length) : atI (ns.map V.str) (v : Int) = some (.str (nmAt ns v)) := atI_nat (by
  rw [List.getElem?_map, List.getElem?_eq_getElem h, nmAt_eq h]
  rfl)
section
variable {P : Program} {w : World} {K : PySem.W.Frag} {mg : Str → Option Value} {base : Heap} {f c p1 : Addr} {fd : FuncData} {Ps : List Addr}
theorem ok_tree (F : FunD K "_law_tree" "_law_tree" (defArgs sTree) (defBody sTree) (defScope sTree) [] [] f fd) (cT : Cal P w K mg base 1 "_law_take" spTake) (cS : Cal P w K mg base 3 "_law_some" (spSome K))
    (gR : mg "range" = none) (gL : mg "list" = none) (gM : mg "max" = none) (gS : mg "sorted" = none) (gD : mg "dict" = none) : FnOk P w K mg base CX0 4 f fd ["pot", "many"] spTree := by
  refine F.ok scTree (fun vs H Q E h => ?_) ?_
  · obtain ⟨p, m, n, rfl, _⟩ := h
    rfl
  intro cdv A outer s H vs Q E hr h
  refine ⟨_, PSs.nox (pss_cons (ps_set (i := 2) scTree.nd rfl (Or.inl rfl) pe_str)
    (pss_cons (ps_set (i := 3) scTree.nd rfl (Or.inl rfl) (pe_op op_cat (pe_op op_cat (pe_callTy (call_listT rfl) rfl gL (by decide +kernel) (pa_cons (pv 2) pa_nil))
      (pe_lc (own := [("one", 9)]) (g := gName 9) (tt := tYes) rfl scTree.nd (pi_str (pv 2)) (blkOk_by (N := nTree) (sc := defScope sTree) (by decide +kernel)) (fun _ _ _ _ _ => pg_name (i := 9) scTree.nd rfl (Or.inl rfl)) (fun _ _ _ _ _ => pts_nil) (fun _ _ _ _ _ => pe_op op_add_str (pv 9) (pv 9))))
      (pe_lst (pa_cons pe_str (pa_cons pe_str (pa_cons pe_str (pa_cons pe_str (pa_cons pe_str (pa_cons pe_str pa_nil)))))))))
    (pss_cons (ps_set (i := 4) scTree.nd rfl (Or.inl rfl) (pe_c cS hr (by decide) rfl (pa_cons (pv 0) (pa_cons (pv 3) (pa_cons (pv 1) pa_nil)))))
    (pss_cons (ps_asg (pe_tup (pa_cons (pe_c cT hr (by decide) rfl (pa_cons (pv 0) (pa_cons pe_int pa_nil))) (pa_cons (pe_callTy (call_dictP rfl) rfl gD (by decide +kernel) (pa_cons
      (pe_lc (own := [("name", 10)]) (g := gName 10) (tt := tYes) rfl scTree.nd (pi_list (pv 4)) (blkOk_by (N := nTree) (sc := defScope sTree) (by decide +kernel)) (fun _ _ _ _ _ => pg_name (i := 10) scTree.nd rfl (Or.inl rfl)) (fun _ _ _ _ _ => pts_nil) (fun _ _ _ _ _ => pe_tup (pa_cons (pv 10) (pa_cons (pe_lst pa_nil) pa_nil)))) pa_nil)) pa_nil)))
      (pg_tup rfl (pgs_cons (pg_name (i := 5) scTree.nd rfl (Or.inl rfl)) (pgs_cons (pg_name (i := 6) scTree.nd rfl (Or.inr rfl)) pgs_nil))))
    (pss_cons (ps_for PassesOwn.never rfl (pi_range2 rfl gR (pa_cons pe_int (pa_cons (pv 1) pa_nil))) (pg_name (i := 7) scTree.nd rfl (Or.inl rfl))
      (pss_cons (ps_set (i := 8) scTree.nd rfl (Or.inl rfl) (pe_ix ix_list (pe_lst (pa_cons (pe_op op_sub (pv 7) pe_int) (pa_cons pe_int (pa_cons (pe_callB (call_max2 rfl) rfl gM (by decide +kernel) (pa_cons pe_int (pa_cons (pe_op op_sub (pv 7) pe_int) pa_nil)))
          (pa_cons (pe_c cT hr (by decide) rfl (pa_cons (pv 0) (pa_cons (pv 7) pa_nil))) (pa_cons (pe_callB (call_max2 rfl) rfl gM (by decide +kernel) (pa_cons pe_int (pa_cons (pe_op op_sub (pe_op op_sub (pv 7) pe_int) (pe_c cT hr (by decide) rfl (pa_cons (pv 0) (pa_cons pe_int pa_nil)))) pa_nil))) pa_nil)))))) (pv 5) (fun _ _ => rfl)))
      (pss_cons (ps_expr (pe_bm PySem.F.plainAttrs_list PySem.F.slot_list_append PySem.F.type_list_append mt_append (pe_dget (hu_of hr) (pv 6) (pe_ix ix_list (pv 4) (pv 7) (fun _ _ => rfl)) (fun _ _ => rfl)) (pa_cons (pe_ix ix_list (pv 4) (pv 8) (fun _ _ => rfl)) pa_nil)))
      (pss_one (ps_expr (pe_bm PySem.F.plainAttrs_list PySem.F.slot_list_append PySem.F.type_list_append mt_append (pe_dget (hu_of hr) (pv 6) (pe_ix ix_list (pv 4) (pv 8) (fun _ _ => rfl)) (fun _ _ => rfl)) (pa_cons (pe_ix ix_list (pv 4) (pv 7) (fun _ _ => rfl)) pa_nil)))))))
    (pss_one (ps_ret (pe_callTy (call_dictP rfl) rfl gD (by decide +kernel) (pa_cons
      (pe_lc (own := [("name", 10)]) (g := gName 10) (tt := tYes) (te := tTup (tCons (tVar 10) (tCons (tCB (rSortedS K) (tCons (tDGet (tVar 6) (tVar 10)) tNil)) tNil))) rfl scTree.nd (pi_list (pe_c cS hr (by decide) rfl (pa_cons (pv 0) (pa_cons (pv 4) (pa_cons (pv 1) pa_nil))))) (blkOk_by (N := nTree) (sc := defScope sTree) (by decide +kernel))
        (fun _ _ _ _ _ => pg_name (i := 10) scTree.nd rfl (Or.inl rfl)) (fun _ _ _ _ _ => pts_nil) (fun _ _ _ _ _ => pe_tup (pa_cons (pv 10) (pa_cons (pe_callB cr_sortedS rfl gS (by decide +kernel) (pa_cons (pe_dget (hu_of hr) (pv 6) (pv 10) (fun _ _ => rfl)) pa_nil)) pa_nil)))) pa_nil))))))))), ?_⟩
  obtain ⟨p, m, n, rfl, hP, hn, m1, m40, hQ⟩ := h
  refine seq_asg (fun v H1 => v = .str letS ∧ H = H1) (fun Q' hQ' => hQ' _ _ ⟨rfl, rfl⟩) ?_
  rintro _ _ ⟨rfl, rfl⟩
  refine seq_asg (fun v H1 => ∃ a, v = .ref a ∧ Same H H1 ∧ H1 a = some (.lst (wordsL.map V.str))) (fun Q' hQ' => ?_) ?_
  · refine ⟨_, rfl, letS, rfl, by rw [sizeLine_eq]; decide +kernel, fun l1 hl1 => ⟨_, rfl, letS, rfl, fun D hD => ?_⟩⟩
    have a1 : Same H (upd H l1 (.lst (letS.cps.toList.map fun c => V.str ⟨#[c]⟩))) := snew hl1
    have b1 : upd H l1 (.lst (letS.cps.toList.map fun c => V.str ⟨#[c]⟩)) l1 = some (.lst (singles.map V.str)) := by rw [upd_same, singles, List.map_map]; rfl
    generalize upd H l1 (.lst (letS.cps.toList.map fun c => V.str ⟨#[c]⟩)) = H1 at a1 b1 hD
    refine lc_it walk_str (fun i H' => H' = upd H1 D (.lst ((doubles.take i).map V.str))) rfl (fun _ _ _ _ => trivial) ?_ ?_
    · rintro i x H' H'' hi rfl ⟨rfl, ch, hc, rfl⟩
      refine ⟨rfl, _, rfl, _, rfl, _, _, rfl, rfl, by show 1 + 1 ≤ sizeLine; rw [sizeLine_eq]; omega, _, upd_same, ?_, ?_⟩
      · rw [List.length_map, List.length_take, sizeLine_eq]
        have : doubles.length = 26 := by decide +kernel
        omega
      · have e : doubles[i]? = some ((⟨#[ch]⟩ : Str) ++ ⟨#[ch]⟩) := by
          unfold doubles
          rw [List.getElem?_map, Array.getElem?_toList, hc]
          rfl
        rw [upd_upd, List.take_succ, e, List.map_append]
        rfl
    · rintro H' rfl
      have e : doubles.take letS.cps.size = doubles := List.take_of_length_le (by decide +kernel)
      rw [e]
      have a2 : Same H1 (upd H1 D (.lst (doubles.map V.str))) := snew hD
      have b2 : upd H1 D (.lst (doubles.map V.str)) D = some (.lst (doubles.map V.str)) := upd_same
      generalize upd H1 D (.lst (doubles.map V.str)) = H2 at a2 b2
      refine ⟨l1, D, _, _, rfl, rfl, a2 _ _ b1, b2, by rw [sizeLine_eq]; decide +kernel, fun c1 hc1 => ?_⟩
      have a3 : Same H2 (upd H2 c1 (.lst (singles.map V.str ++ doubles.map V.str))) := snew hc1
      have b3 : upd H2 c1 (.lst (singles.map V.str ++ doubles.map V.str)) c1 = some (.lst ((singles ++ doubles).map V.str)) := by rw [upd_same, List.map_append]
      generalize upd H2 c1 (.lst (singles.map V.str ++ doubles.map V.str)) = H3 at a3 b3
      refine ⟨by show 6 ≤ sizeLine; decide, fun l2 hl2 => ?_⟩
      have a4 : Same H3 (upd H3 l2 (.lst (sixes.map V.str))) := snew hl2
      have b4 : upd H3 l2 (.lst (sixes.map V.str)) l2 = some (.lst (sixes.map V.str)) := upd_same
      obtain ⟨H4, e4⟩ : ∃ H4, H4 = upd H3 l2 (.lst (sixes.map V.str)) := ⟨_, rfl⟩
      rw [← e4] at a4 b4
      refine ⟨c1, l2, (singles ++ doubles).map V.str, sixes.map V.str, rfl, rfl, e4 ▸ a4 _ _ b3, e4 ▸ b4, by rw [sizeLine_eq]; decide +kernel, fun a ha => ?_⟩
      rw [← show H4 = upd H3 l2 (.lst [.str "net", .str "line", .str "ask", .str "settle", .str "zzzzzzzz", .str "none"]) from e4] at ha ⊢
      refine hQ' _ _ ⟨a, rfl, a1.trans (a2.trans (a3.trans (a4.trans (snew ha)))), ?_⟩
      rw [upd_same, wordsL, List.map_append (l₂ := sixes)]
  rintro v H1 ⟨W, rfl, s1, hW⟩
  have k1 : Kp p H H1 := Kp.same s1
  have hp1 : PotAt H1 p n := by
    obtain ⟨x, y, z, e, r⟩ := hP
    exact ⟨x, y, z, s1 _ _ e, r⟩
  have Wp : W ≠ p := hp1.ne' hW names_ne_pot
  refine ⟨_, rfl, _, rfl, _, rfl, p, W, m, n, wordsL, rfl, .inl (.inl hW), hp1, by omega, by rw [words_len]; omega, by rw [words_len]; decide, fun H2 NS ns rest k2 hNS0 hNS hp2 pm2 le2 => ?_⟩
  have nsn : ns.Nodup := (List.nodup_append.mp (pm2.symm.nodup words_nd)).1
  have nsok : ∀ x ∈ ns, NameOk x := fun x hx => words_ok x (pm2.subset (List.mem_append_left _ hx))
  have NSp : NS ≠ p := hp2.ne' hNS names_ne_pot
  -- shape, near
  refine ⟨_, rfl, p, 5, n + m, rfl, hp2, by omega, by decide, by decide, fun H3 w hp3 only3 w0 w1 => ?_⟩
  have hNS3 : H3 NS = some (.lst (ns.map V.str)) := (only3 NS NSp).trans hNS
  have k3 : Kp p H H3 := k1.trans (k2.trans (Kp.of only3))
  refine ⟨_, rfl, NS, rfl, ⟨_, .inl (.inl hNS3)⟩, fun D hD => ?_⟩
  have Dp : D ≠ p := hp3.ne hD
  have DNS : NS ≠ D := ne_of_none hNS3 hD
  refine lc_list (K := K) (xs := ns.map V.str) (fun i H' => ∃ (zs : List Row) (tps : List Addr), Same H3 H' ∧ H' D = some (.lst (tps.map V.ref)) ∧ zs.map (·.1) = ns.take i ∧ (zs.map (·.2.1)).Nodup ∧ TupsAt H' tps zs ∧ (∀ r ∈ zs, H' r.2.1 = some (.lst [])) ∧ ∀ r ∈ zs, H3 r.2.1 = none)
    ⟨[], [], snew hD, upd_same, rfl, .nil, .nil, fun r hr => absurd hr List.not_mem_nil, fun r hr => absurd hr List.not_mem_nil⟩ (fun i H' _ ⟨_, _, sm, _⟩ => .inl (.inl (sm _ _ hNS3))) ?_ ?_
  · rintro i x H' hx ⟨zs, tps, sm, hd, hnm, had, htp, hls, hfr⟩
    rw [List.getElem?_map] at hx
    cases hy : ns[i]? with
    | none => rw [hy] at hx; cases hx
    | some y =>
      rw [hy] at hx
      cases hx
      have hi : i < ns.length := (List.getElem?_eq_some_iff.mp hy).1
      refine ⟨rfl, _, rfl, by show 0 ≤ sizeLine; exact Nat.zero_le _, fun l hl => ⟨by show 2 ≤ sizeLine; decide, fun tp htp0 => ?_⟩⟩
      have tl : tp ≠ l := fun z => by rw [z, upd_same] at htp0; cases htp0
      have htp1 : H' tp = none := by rw [upd_ne tl] at htp0; exact htp0
      have Dl : D ≠ l := ne_of_none hd hl
      have Dt : D ≠ tp := ne_of_none hd htp1
      have len : tps.length = i := by
        have e := congrArg List.length hnm
        rw [List.length_map, List.length_take] at e
        rw [htp.len]
        omega
      refine ⟨tps.map V.ref, by rw [upd_ne Dt, upd_ne Dl]; exact hd, by rw [List.length_map, len, sizeLine_eq]; omega, zs ++ [(y, l, [])], tps ++ [tp], fun b o e => ?_, ?_, ?_, ?_, ?_, fun r hr => ?_, fun r hr => ?_⟩
      · rw [upd_ne (ne_of_none e hD), upd_ne (ne_of_none (sm _ _ e) htp1), upd_ne (ne_of_none (sm _ _ e) hl)]
        exact sm _ _ e
      · rw [upd_same, List.map_append]
        rfl
      · rw [List.map_append, hnm, List.take_succ, hy]
        rfl
      · rw [List.map_append]
        refine List.nodup_append.mpr ⟨had, by simp, fun a ha b hb e => ?_⟩
        obtain ⟨r, hr, er⟩ := List.mem_map.mp ha
        have := hls r hr
        rw [er, e, show b = l from List.mem_singleton.mp hb, hl] at this
        cases this
      · refine TupsAt.snoc (htp.keep fun b xs e => ?_) ?_
        · have z2 : b ≠ D := fun z => by rw [z, hd] at e; cases e
          rw [upd_ne z2, upd_ne (ne_of_none e htp1), upd_ne (ne_of_none e hl)]
          exact e
        · rw [upd_ne (Ne.symm Dt)]
          exact upd_same
      · rcases List.mem_append.mp hr with z | z
        · have e := hls r z
          have z2 : r.2.1 ≠ D := fun q => by
            have := hfr r z
            have h3 := hls r z
            rw [q, hd] at h3
            injection h3 with h3
            injection h3 with h3
            rw [List.map_eq_nil_iff] at h3
            rw [h3] at htp
            unfold TupsAt at htp
            cases htp
            exact absurd z List.not_mem_nil
          rw [upd_ne z2, upd_ne (ne_of_none e htp1), upd_ne (ne_of_none e hl)]
          exact e
        · rw [List.mem_singleton.mp z]
          rw [upd_ne (Ne.symm Dl), upd_ne (Ne.symm tl)]
          exact upd_same
      · rcases List.mem_append.mp hr with z | z
        · exact hfr r z
        · rw [List.mem_singleton.mp z]
          exact sm.free hl
  rintro H4 ⟨zs, tps, sm4, hd4, hnm, had, htp, hls, hfr⟩
  rw [List.length_map, List.take_length] at hnm
  refine ⟨D, tps, kvsOf zs, rfl, .inl (.inl hd4), htp.pairs, fun N hN => ?_⟩
  rw [mergeK_rows0 (by rw [hnm]; exact nsn)]
  have s5 : Same H4 (upd H4 N (.dK (kvsOf zs))) := snew hN
  have hN5 : upd H4 N (.dK (kvsOf zs)) N = some (.dK (kvsOf zs)) := upd_same
  generalize upd H4 N (.dK (kvsOf zs)) = H5 at s5 hN5
  refine ⟨by show 2 ≤ sizeLine; decide, fun tp2 htp2 => ⟨tp2, _, rfl, .inl (.inl upd_same), rfl, _, _, rfl, _, _, rfl, rfl, ?_⟩⟩
  have s6 : Same H5 (upd H5 tp2 (.tup [.int w, .ref N])) := snew htp2
  generalize upd H5 tp2 (.tup [.int w, .ref N]) = H6 at s6
  have s36 : Same H3 H6 := sm4.trans (s5.trans s6)
  have hp6 : PotAt H6 p (n + m + 1) := by
    obtain ⟨x, y, z, e, r⟩ := hp3
    exact ⟨x, y, z, s36 _ _ e, r⟩
  have lenz : zs.length = ns.length := by rw [← hnm, List.length_map]
  have near6 : Near H6 N ns zs fun _ => [] := ⟨s6 _ _ hN5, hnm, had, fun v r hr => s6 _ _ (s5 _ _ (hls r (List.mem_of_getElem? hr)))⟩
  -- the loop
  refine ⟨_, rfl, 1, m, rfl, by omega, ?_⟩
  refine for_range (lo := 1) (n := ((m : Int) - 1).toNat) (fun i σ' H' => ∃ v7 v8 adj, σ' = [some (.ref p), some (.int m), some (.str letS), some (.ref W), some (.ref NS), some (.int w), some (.ref N), v7, v8, none, none] ∧ Kp p H3 H' ∧ PotAt H' p (n + m + 1 + 2 * i) ∧
    Near H' N ns zs adj ∧ Gr i adj) ⟨_, _, _, rfl, Kp.same s36, hp6, near6, Gr.zero⟩ ?_ ?_
  · rintro i σ' H' hi ⟨v7, v8, adj, rfl, k, hp, near, g⟩
    have hi' : i + 1 < m := by omega
    have hNS' : H' NS = some (.lst (ns.map V.str)) := k _ _ NSp hNS3
    refine seq_asg (fun v H1 => ∃ a : Nat, v = .int a ∧ a ≤ i ∧ Kp p H' H1 ∧ PotAt H1 p (n + m + 1 + 2 * (i + 1))) (fun Q' hQ' => ?_) ?_
    · refine ⟨_, rfl, _, _, rfl, rfl, _, rfl, _, _, rfl, rfl, _, _, rfl, _, rfl, _, rfl, p, _, n + m + 1 + 2 * i, rfl, hp, by omega, by omega, by omega, fun H7 j hp7 only7 j0 j1 => ?_⟩
      refine ⟨_, rfl, _, _, rfl, rfl, _, rfl, p, 3, _, rfl, hp7, by omega, by decide, by decide, fun H8 j' hp8 only8 j0' j1' => ?_⟩
      refine ⟨_, _, rfl, rfl, _, _, rfl, by show 5 ≤ sizeLine; decide, fun L hL => ?_⟩
      have k9 : Kp p H' (upd H8 L (.lst [.int (1 + (i : Int) - 1), .int 0, .int (if (1 + (i : Int) - 2) > 0 then 1 + (i : Int) - 2 else 0), .int j, .int (if (1 + (i : Int) - 1 - j') > 0 then 1 + (i : Int) - 1 - j' else 0)])) :=
        (Kp.of only7).trans ((Kp.of only8).trans (Kp.new hL))
      have hp9 : PotAt (upd H8 L (.lst [.int (1 + (i : Int) - 1), .int 0, .int (if (1 + (i : Int) - 2) > 0 then 1 + (i : Int) - 2 else 0), .int j, .int (if (1 + (i : Int) - 1 - j') > 0 then 1 + (i : Int) - 1 - j' else 0)])) p (n + m + 1 + 2 * (i + 1)) :=
        (hp8.upd (Ne.symm (hp8.ne hL))).mono (by omega)
      have at_ : ∃ a : Nat, atI [V.int (1 + (i : Int) - 1), .int 0, .int (if (1 + (i : Int) - 2) > 0 then 1 + (i : Int) - 2 else 0), .int j, .int (if (1 + (i : Int) - 1 - j') > 0 then 1 + (i : Int) - 1 - j' else 0)] w = some (.int a) ∧ a ≤ i := by
        have ww : w = 0 ∨ w = 1 ∨ w = 2 ∨ w = 3 ∨ w = 4 := by omega
        rcases ww with rfl | rfl | rfl | rfl | rfl
        · exact ⟨i, congrArg (fun z => some (V.int z)) (show (1 + (i : Int) - 1) = i by omega), Nat.le_refl _⟩
        · exact ⟨0, rfl, Nat.zero_le _⟩
        · refine ⟨(if (1 + (i : Int) - 2) > 0 then 1 + (i : Int) - 2 else 0).toNat, ?_, by split <;> omega⟩
          rw [Int.toNat_of_nonneg (by split <;> omega)]
          rfl
        · refine ⟨j.toNat, ?_, by omega⟩
          rw [Int.toNat_of_nonneg j0]
          rfl
        · refine ⟨(if (1 + (i : Int) - 1 - j') > 0 then 1 + (i : Int) - 1 - j' else 0).toNat, ?_, by split <;> omega⟩
          rw [Int.toNat_of_nonneg (by split <;> omega)]
          rfl
      obtain ⟨a, ea, al⟩ := at_
      exact ⟨_, rfl, L, _, _, _, rfl, rfl, .inl (.inl upd_same), ea, hQ' _ _ ⟨a, rfl, al, k9, hp9⟩⟩
    rintro v H1 ⟨a, rfl, al, k1', hp1'⟩
    have near1 := near.keep hp k1'
    have hNS1 : H1 NS = some (.lst (ns.map V.str)) := k1' _ _ NSp hNS'
    have ek : (1 : Int) + (i : Int) = ((i + 1 : Nat) : Int) := by omega
    have kl : i + 1 < ns.length := by omega
    have all' : a < ns.length := by omega
    obtain ⟨r, hr, hrm, er⟩ := near1.row kl
    have lk := near1.at_ _ r hr
    have sz : ∀ v, (((adj v).map (nmAt ns)).map V.str).length < sizeLine := fun v => by
      rw [List.length_map, List.length_map, sizeLine_eq]
      have := OkTree.deg.nodup_sub (xs := (adj v).map (nmAt ns)) (ys := ns) (okTree_of.nd_map (g.nd v) fun a ha b hb e => nmAt_inj nsn (by have := g.le _ _ ha; omega) (by have := g.le _ _ hb; omega) e) fun y hy => by
        obtain ⟨u, hu, e⟩ := List.mem_map.mp hy
        rw [← e]
        exact nmAt_mem (by have := g.le _ _ hu; omega)
      rw [List.length_map] at this
      omega
    refine ⟨_, rfl, _, rfl, _, rfl, NS, _, _, _, rfl, rfl, .inl (.inl hNS1), by rw [ek]; exact at_nm kl, N, .ref r.2.1, rfl, er ▸ near1.get nsn hrm, .inl ⟨rfl, _, .inl (.inl lk)⟩, _, rfl, _, rfl, NS, _, _, _, rfl, rfl, .inl (.inl hNS1), at_nm all', r.2.1, _, _, rfl, rfl, lk, sz _, ?_⟩
    have near2 := near1.add (u := a) hr
    have rNS : NS ≠ r.2.1 := fun z => by
      have h1 := (hls r hrm)
      have h2 := hfr r hrm
      rw [← z, hNS3] at h2
      cases h2
    have rp : r.2.1 ≠ p := hp1'.ne' lk names_ne_pot
    have hNS2 : upd H1 r.2.1 (.lst (((adj (i + 1)).map (nmAt ns)).map V.str ++ [.str (nmAt ns a)])) NS = some (.lst (ns.map V.str)) := by
      rw [upd_ne rNS]
      exact hNS1
    have hp2' := hp1'.upd (o := .lst (((adj (i + 1)).map (nmAt ns)).map V.str ++ [.str (nmAt ns a)])) (Ne.symm rp)
    have k2' : Kp p H3 (upd H1 r.2.1 (.lst (((adj (i + 1)).map (nmAt ns)).map V.str ++ [.str (nmAt ns a)]))) := (k.trans k1').put (hfr r hrm)
    generalize upd H1 r.2.1 (.lst (((adj (i + 1)).map (nmAt ns)).map V.str ++ [.str (nmAt ns a)])) = H2' at near2 hNS2 hp2' k2'
    obtain ⟨r2, hr2, hrm2, er2⟩ := near2.row all'
    have lk2 := near2.at_ _ r2 hr2
    have ne : a ≠ i + 1 := by omega
    rw [if_neg ne] at lk2
    refine ⟨_, rfl, _, rfl, _, rfl, NS, _, _, _, rfl, rfl, .inl (.inl hNS2), at_nm all', N, .ref r2.2.1, rfl, er2 ▸ near2.get nsn hrm2, .inl ⟨rfl, _, .inl (.inl lk2)⟩, _, rfl, _, rfl, NS, _, _, _, rfl, rfl, .inl (.inl hNS2), by rw [ek]; exact at_nm kl, r2.2.1, _, _, rfl, rfl, lk2, sz _, ?_⟩
    have near3 := near2.add (u := i + 1) hr2
    have r2p : r2.2.1 ≠ p := hp2'.ne' lk2 names_ne_pot
    refine ⟨_, _, addE adj (i + 1) a, rfl, k2'.put (hfr r2 hrm2), hp2'.upd (Ne.symm r2p), ?_, g.step al⟩
    rw [if_neg ne] at near3
    have eadj : (fun w => if w = a then (if w = i + 1 then adj w ++ [a] else adj w) ++ [i + 1] else if w = i + 1 then adj w ++ [a] else adj w) = addE adj (i + 1) a := by
      funext w
      unfold addE
      by_cases e1 : w = i + 1
      · rw [if_neg (fun z => ne (z.symm.trans e1)), if_pos e1, if_pos e1]
      · rw [if_neg e1, if_neg e1]
    rw [eadj] at near3
    exact near3
  · rintro σ' H' ⟨v7, v8, adj, rfl, k, hp, near, g⟩
    have em : ((m : Int) - 1).toNat = m - 1 := by omega
    rw [em] at hp g
    have hNS' : H' NS = some (.lst (ns.map V.str)) := k _ _ NSp hNS3
    refine ⟨_, rfl, _, rfl, _, rfl, p, NS, m, _, ns, rfl, .inl (.inl hNS'), hp, by omega, by omega, by omega, fun H8 QS qs rest8 k8 hQS0 hQS hp8 pm8 le8 => ?_⟩
    have rest0 : rest8 = [] := by
      have := pm8.length_eq
      rw [List.length_append] at this
      exact List.eq_nil_of_length_eq_zero (by omega)
    rw [rest0, List.append_nil] at pm8
    have near8 := near.keep hp k8
    refine ⟨QS, rfl, ⟨_, .inl (.inl hQS)⟩, fun D2 hD2 => ?_⟩
    have D2p : D2 ≠ p := hp8.ne hD2
    refine lc_list (K := K) (xs := qs.map V.str) (fun i H'' => ∃ (t : List Row) (tps : List Addr), Same H8 H'' ∧ H'' D2 = some (.lst (tps.map V.ref)) ∧ t.map (·.1) = qs.take i ∧ TupsAt H'' tps t ∧ (∀ r ∈ t, H'' r.2.1 = some (.lst (r.2.2.map V.str))) ∧ (∀ r ∈ t, H8 r.2.1 = none ∧ r.2.1 ≠ D2) ∧
      ∀ r ∈ t, r.2.2.Perm ((adj (ns.idxOf r.1)).map (nmAt ns)) ∧ sortedS r.2.2 = true)
      ⟨[], [], snew hD2, upd_same, rfl, .nil, fun r hr => absurd hr List.not_mem_nil, fun r hr => absurd hr List.not_mem_nil, fun r hr => absurd hr List.not_mem_nil⟩ (fun i H'' _ ⟨_, _, sm, _⟩ => .inl (.inl (sm _ _ hQS))) ?_ ?_
    · rintro i x H'' hx ⟨t, tps, sm, hd, hnm2, htp', hls', hfr', hpm'⟩
      rw [List.getElem?_map] at hx
      cases hy : qs[i]? with
      | none => rw [hy] at hx; cases hx
      | some y =>
        rw [hy] at hx
        cases hx
        have hi : i < qs.length := (List.getElem?_eq_some_iff.mp hy).1
        have hyns : y ∈ ns := pm8.subset (List.mem_of_getElem? hy)
        have lidx := List.idxOf_lt_length_of_mem hyns
        have near9 : Near H'' N ns zs adj := ⟨sm _ _ near8.d, near8.nm, near8.ad, fun v r hr => sm _ _ (near8.at_ v r hr)⟩
        obtain ⟨r, hr, hrm, er⟩ := near9.row lidx
        have ey : nmAt ns (ns.idxOf y) = y := by rw [nmAt_eq lidx]; exact List.getElem_idxOf lidx
        rw [ey] at er
        refine ⟨rfl, _, rfl, _, rfl, _, rfl, N, _, rfl, er ▸ near9.get nsn hrm, r.2.1, (adj (ns.idxOf y)).map (nmAt ns), rfl, .inl (.inl (near9.at_ _ r hr)), ?_, fun ys l pm so hl => ⟨by show 2 ≤ sizeLine; decide, fun tp htp0 => ?_⟩⟩
        · have := OkTree.deg.nodup_sub (xs := (adj (ns.idxOf y)).map (nmAt ns)) (ys := ns) (okTree_of.nd_map (g.nd _) fun a ha b hb e => nmAt_inj nsn (by have := g.le _ _ ha; omega) (by have := g.le _ _ hb; omega) e) fun y hy => by
            obtain ⟨u, hu, e⟩ := List.mem_map.mp hy
            rw [← e]
            exact nmAt_mem (by have := g.le _ _ hu; omega)
          omega
        have tl : tp ≠ l := fun z => by rw [z, upd_same] at htp0; cases htp0
        have htp1 : H'' tp = none := by rw [upd_ne tl] at htp0; exact htp0
        have Dl : D2 ≠ l := ne_of_none hd hl
        have Dt : D2 ≠ tp := ne_of_none hd htp1
        have len : tps.length = i := by
          have e := congrArg List.length hnm2
          rw [List.length_map, List.length_take] at e
          rw [htp'.len]
          omega
        refine ⟨tps.map V.ref, by rw [upd_ne Dt, upd_ne Dl]; exact hd, by rw [List.length_map, len, sizeLine_eq]; omega, t ++ [(y, l, ys)], tps ++ [tp], fun b o e => ?_, ?_, ?_, ?_, fun r' hr' => ?_, fun r' hr' => ?_, fun r' hr' => ?_⟩
        · rw [upd_ne (ne_of_none e hD2), upd_ne (ne_of_none (sm _ _ e) htp1), upd_ne (ne_of_none (sm _ _ e) hl)]
          exact sm _ _ e
        · rw [upd_same, List.map_append]
          rfl
        · rw [List.map_append, hnm2, List.take_succ, hy]
          rfl
        · refine TupsAt.snoc (htp'.keep fun b xs e => ?_) ?_
          · have z2 : b ≠ D2 := fun z => by rw [z, hd] at e; cases e
            rw [upd_ne z2, upd_ne (ne_of_none e htp1), upd_ne (ne_of_none e hl)]
            exact e
          · rw [upd_ne (Ne.symm Dt)]
            exact upd_same
        · rcases List.mem_append.mp hr' with z | z
          · have e := hls' r' z
            rw [upd_ne (hfr' r' z).2, upd_ne (ne_of_none e htp1), upd_ne (ne_of_none e hl)]
            exact e
          · rw [List.mem_singleton.mp z, upd_ne (Ne.symm Dl), upd_ne (Ne.symm tl)]
            exact upd_same
        · rcases List.mem_append.mp hr' with z | z
          · exact hfr' r' z
          · rw [List.mem_singleton.mp z]
            exact ⟨sm.free hl, Ne.symm Dl⟩
        · rcases List.mem_append.mp hr' with z | z
          · exact hpm' r' z
          · rw [List.mem_singleton.mp z]
            exact ⟨pm, so⟩
    · rintro H'' ⟨t, tps, sm, hd, hnm2, htp', hls', hfr', hpm'⟩
      rw [List.length_map, List.take_length] at hnm2
      have qsn : qs.Nodup := pm8.symm.nodup nsn
      refine ⟨D2, tps, kvsOf t, rfl, .inl (.inl hd), htp'.pairs, fun d hd2 => ?_⟩
      rw [mergeK_rows0 (by rw [hnm2]; exact qsn)]
      have kk : Kp p H H'' := k3.trans (k.trans (k8.trans (Kp.same sm)))
      have hpE : PotAt H'' p (n + 300) := by
        obtain ⟨x, y, z, e, r⟩ := hp8.mono (m := n + 300) (by omega)
        exact ⟨x, y, z, sm _ _ e, r⟩
      refine hQ _ d t (kk.put (kk.free hd2 (hpE.ne hd2))) (kk.free hd2 (hpE.ne hd2)) upd_same (fun r hr => by rw [upd_ne (ne_of_none (hls' r hr) hd2)]; exact hls' r hr) (okTree_of g (by omega) (by omega) nsn nsok (by rw [hnm2]; exact pm8) hpm') ?_ (hpE.upd (Ne.symm (hpE.ne hd2)))
      have := congrArg List.length hnm2
      rw [List.length_map] at this
      omega
end
end A8
set_option Elab.async false
set_option linter.all false
set_option maxRecDepth 100000
set_option maxHeartbeats 4000000
namespace A8
open PySem PySem.Spec PyProof.Rows L2 AL
/-! ### small data are told in full -/
structure Sm (d : PyData) (k w : Nat) : Prop where
  sh : d.showable = true
  dp : d.depth ≤ k
  le : d.leavesShort 13 = true
  we : d.weight ≤ w
theorem Sm.mono {d : PyData} {k w k' w' : Nat} (h : Sm d k w) (hk : k ≤ k') (hw : w ≤ w') : Sm d k' w' := ⟨h.sh, Nat.le_trans h.dp hk, h.le, Nat.le_trans h.we hw⟩
theorem Sm.str {x : Str} (h : NameOk x) : Sm (.str x) 0 8 := ⟨rfl, Nat.le_refl _, List.all_eq_true.mpr fun c hc => decide_eq_true (by have := (h.2.2 c hc).2; omega), h.2.1⟩
theorem Sm.int {n : Nat} (h : n ≤ 400) : Sm (.int n) 0 9 := by
  have e : ((n : Nat) : Int).natAbs = n := Int.natAbs_natCast n
  have l : n.log2 ≤ 8 := by
    by_cases z : n = 0
    · rw [z]; decide
    · have := (Nat.log2_lt z).mpr (show n < 2 ^ 9 by omega)
      omega
  refine ⟨?_, Nat.le_refl _, ?_, ?_⟩
  · show decide (((n : Nat) : Int).natAbs.log2 < 1920) = true
    rw [e]
    exact decide_eq_true (by omega)
  · show decide ((PyData.shown (.int n)).length ≤ 13) = true
    exact decide_eq_true (PyData.shown_int_le (by rw [e]; omega))
  · show (if ((n : Nat) : Int) == 0 then 0 else ((n : Nat) : Int).natAbs.log2 + 1) ≤ 9
    rw [e]
    split <;> omega
structure SmAll (ds : List PyData) (k w : Nat) : Prop where
  sh : PyData.showableAll ds = true
  dp : PyData.depthAll ds ≤ k
  le : PyData.leavesShortAll 13 ds = true
  we : PyData.weightAll ds ≤ (w + 1) * ds.length
theorem SmAll.of : ∀ {ds : List PyData} {k w : Nat}, (∀ d ∈ ds, Sm d k w) → SmAll ds k w
  | [], k, w, _ => ⟨rfl, Nat.zero_le _, rfl, Nat.zero_le _⟩
  | d :: ds, k, w, h => by
    have a := h d List.mem_cons_self
    have b := SmAll.of fun e he => h e (List.mem_cons_of_mem _ he)
    refine ⟨?_, ?_, ?_, ?_⟩
    · show (d.showable && PyData.showableAll ds) = true
      rw [a.sh, b.sh]; rfl
    · show max d.depth (PyData.depthAll ds) ≤ k
      exact Nat.max_le.mpr ⟨a.dp, b.dp⟩
    · show (d.leavesShort 13 && PyData.leavesShortAll 13 ds) = true
      rw [a.le, b.le]; rfl
    · show d.weight + 1 + PyData.weightAll ds ≤ (w + 1) * (ds.length + 1)
      have := a.we
      have := b.we
      rw [Nat.mul_add]
      omega
theorem SmAll.list {ds : List PyData} {k w : Nat} (h : SmAll ds k w) : Sm (.list ds) (k + 1) ((w + 1) * ds.length) := ⟨h.sh, Nat.succ_le_succ h.dp, h.le, h.we⟩
theorem SmAll.tup {ds : List PyData} {k w : Nat} (h : SmAll ds k w) : Sm (.tuple ds) (k + 1) ((w + 1) * ds.length) := ⟨h.sh, Nat.succ_le_succ h.dp, h.le, h.we⟩
theorem smKv : ∀ {kvs : List (PyData × PyData)} {k w v : Nat}, (∀ q ∈ kvs, Sm q.1 k w ∧ Sm q.2 k v) → PyData.showableKv kvs = true ∧ PyData.depthKv kvs ≤ k ∧ PyData.leavesShortKv 13 kvs = true ∧ PyData.weightKv kvs ≤ (w + v + 2) * kvs.length
  | [], k, w, v, _ => ⟨rfl, Nat.zero_le _, rfl, Nat.zero_le _⟩
  | (x, y) :: r, k, w, v, h => by
    obtain ⟨a, b⟩ := h (x, y) List.mem_cons_self
    obtain ⟨c1, c2, c3, c4⟩ := smKv fun e he => h e (List.mem_cons_of_mem _ he)
    have a1 : x.showable = true := a.sh
    have b1 : y.showable = true := b.sh
    have a2 : x.depth ≤ k := a.dp
    have b2 : y.depth ≤ k := b.dp
    have a3 : x.leavesShort 13 = true := a.le
    have b3 : y.leavesShort 13 = true := b.le
    have a4 : x.weight ≤ w := a.we
    have b4 : y.weight ≤ v := b.we
    refine ⟨?_, ?_, ?_, ?_⟩
    · show (x.showable && y.showable && PyData.showableKv r) = true
      rw [a1, b1, c1]; rfl
    · show max (max x.depth y.depth) (PyData.depthKv r) ≤ k
      exact Nat.max_le.mpr ⟨Nat.max_le.mpr ⟨a2, b2⟩, c2⟩
    · show (x.leavesShort 13 && y.leavesShort 13 && PyData.leavesShortKv 13 r) = true
      rw [a3, b3, c3]; rfl
    · show x.weight + y.weight + 2 + PyData.weightKv r ≤ (w + v + 2) * (r.length + 1)
      rw [Nat.mul_add]
      omega
theorem Sm.dict {kvs : List (PyData × PyData)} {k w v : Nat} (h : ∀ q ∈ kvs, Sm q.1 k w ∧ Sm q.2 k v) : Sm (.dict kvs) (k + 1) ((w + v + 2) * kvs.length) := by
  obtain ⟨c1, c2, c3, c4⟩ := smKv h
  exact ⟨c1, Nat.succ_le_succ c2, c3, c4⟩
theorem Sm.fits {d : PyData} {k w : Nat} (h : Sm d k w) (hw : w ≤ 1048576) : d.shown.length ≤ sizeLine := PyData.shown_fits (by decide) (by decide) h.le (Nat.le_trans h.we (by omega))
/-! ### the tree, the line, the requests as data -/
def lnD (ln : List Str) : PyData := .list (ln.map .str)
def trD (t : List Row) : PyData := .dict (t.map fun r => (.str r.1, .list (r.2.2.map .str)))
def bothD (t : List Row) (ln : List Str) : PyData := .list [trD t, lnD ln]
theorem sm_names {xs : List Str} (h : ∀ x ∈ xs, NameOk x) : SmAll (xs.map PyData.str) 0 8 := .of fun d hd => by
  obtain ⟨x, hx, rfl⟩ := List.mem_map.mp hd
  exact .str (h x hx)
theorem OkTree.nameOf {t : List Row} (ok : OkTree t) {r : Row} (hr : r ∈ t) {y : Str} (hy : y ∈ r.2.2) : NameOk y := by
  obtain ⟨s, hs, e⟩ := ok.nbs r hr y hy
  rw [← e]
  exact ok.names s hs
theorem sm_line {t : List Row} {ln : List Str} (ok : OkTree t) (nodes : ∀ y ∈ ln, ∃ r ∈ t, r.1 = y) (l : ln.length ≤ 400) : Sm (lnD ln) 1 3600 := by
  have h := (sm_names fun x hx => by
    obtain ⟨r, hr, e⟩ := nodes x hx
    rw [← e]
    exact ok.names r hr : SmAll (ln.map PyData.str) 0 8).list
  refine h.mono (Nat.le_refl _) ?_
  rw [List.length_map]
  omega
theorem sm_tree {t : List Row} (ok : OkTree t) : Sm (trD t) 2 20000 := by
  have h := Sm.dict (kvs := t.map fun r => (PyData.str r.1, PyData.list (r.2.2.map .str))) (k := 1) (w := 8) (v := 360) fun q hq => by
    obtain ⟨r, hr, rfl⟩ := List.mem_map.mp hq
    refine ⟨(Sm.str (ok.names r hr)).mono (Nat.zero_le _) (Nat.le_refl _), ?_⟩
    have h := (sm_names fun y hy => ok.nameOf hr hy : SmAll (r.2.2.map PyData.str) 0 8).list
    refine h.mono (Nat.le_refl _) ?_
    have := ok.deg hr
    rw [List.length_map]
    omega
  refine h.mono (Nat.le_refl _) ?_
  have := ok.n40
  rw [List.length_map]
  omega
theorem sm_both {t : List Row} {ln : List Str} (ok : OkTree t) (nodes : ∀ y ∈ ln, ∃ r ∈ t, r.1 = y) (l : ln.length ≤ 400) : Sm (bothD t ln) 3 50000 := by
  have h : SmAll [trD t, lnD ln] 2 20000 := .of fun d hd => by
    rcases List.mem_cons.mp hd with rfl | hd
    · exact sm_tree ok
    · rw [List.mem_singleton.mp hd]
      exact (sm_line ok nodes l).mono (by decide) (by decide)
  exact h.list.mono (Nat.le_refl _) (by show (20000 + 1) * 2 ≤ 50000; decide)
section
variable {H : Hp}
theorem dat_line {l : Addr} {ln : List Str} (h : H l = some (.lst (ln.map V.str))) : Dat H (.ref l) (lnD ln) := .lst (.inl h) (Dats.strs ln)
theorem dat_tree {d : Addr} {t : List Row} (h : H d = some (.dK (kvsOf t))) (hR : RowsAt H t) : Dat H (.ref d) (trD t) := by
  have ds : Dats H ((kvsOf t).map (·.2)) (t.map fun r => PyData.list (r.2.2.map .str)) := by
    rw [kvsOf, List.map_map]
    exact Dats.of _ _ t fun r hr => .lst (.inl (hR r hr)) (Dats.strs _)
  have e : ((kvsOf t).map fun q => keyD q.1).zip (t.map fun r => PyData.list (r.2.2.map .str)) = t.map fun r => (PyData.str r.1, PyData.list (r.2.2.map .str)) := by
    rw [kvsOf, List.map_map, List.zip_map']
    rfl
  have := Dat.dic (.inl h) ds
  rw [e] at this
  exact this
theorem dat_both {L d l : Addr} {t : List Row} {ln : List Str} (hL : H L = some (.lst [.ref d, .ref l])) (h : H d = some (.dK (kvsOf t))) (hR : RowsAt H t) (hl : H l = some (.lst (ln.map V.str))) : Dat H (.ref L) (bothD t ln) :=
  .lst (.inl hL) (.cons (dat_tree h hR) (.cons (dat_line hl) .nil))
end
end A8
set_option Elab.async false
set_option linter.all false
set_option maxRecDepth 100000
set_option maxHeartbeats 4000000
namespace A8
open PySem PySem.Spec PyProof.Rows L2 AL
open GxR (TabB TabG Tabbed)
abbrev sTow : Stmt := top 31
theorem scTow : FnScope ["tree", "node", "found", "edge", "later", "one", "other"] ["tree", "node"] (defScope sTow) := ⟨rfl, rfl, rfl, by decide +kernel, rfl, by decide +kernel, by decide +kernel⟩
/-- what is found so far -/
structure Fnd (t : List Row) (v : Str) (fs : List (Str × Str)) : Prop where
  nd : (keysS fs).Nodup
  ok : ∀ q ∈ fs, (∃ r ∈ t, r.1 = q.1) ∧ Dr t v q.1 q.2
  v : v ∈ keysS fs
theorem Fnd.len {t : List Row} {v : Str} {fs : List (Str × Str)} (h : Fnd t v fs) : fs.length ≤ t.length := by
  have := OkTree.deg.nodup_sub (ys := t.map (·.1)) h.nd fun y hy => by
    obtain ⟨q, hq, e⟩ := List.mem_map.mp hy
    obtain ⟨r, hr, er⟩ := (h.ok q hq).1
    exact List.mem_map.mpr ⟨r, hr, er.trans e⟩
  rw [List.length_map, List.length_map] at this
  exact this
theorem Fnd.add {t : List Row} {v : Str} {fs : List (Str × Str)} (h : Fnd t v fs) (ok : OkTree t) {r : Row} (hr : r ∈ t) {b y : Str} (hu : (r.1, b) ∈ fs) (hy : y ∈ r.2.2) (hn : y ∉ keysS fs) : Fnd t v (fs ++ [(y, if r.1 = v then y else b)]) where
  nd := by
    show (List.map (fun q : Str × Str => q.1) (fs ++ [_])).Nodup
    rw [List.map_append]
    exact List.nodup_append.mpr ⟨h.nd, by simp, fun a ha c hc e => hn (by rw [← show c = y from List.mem_singleton.mp hc, ← e]; exact ha)⟩
  ok := fun q hq => by
    rcases List.mem_append.mp hq with z | z
    · exact h.ok q z
    · rw [List.mem_singleton.mp z]
      have yv : y ≠ v := fun e => hn (e ▸ h.v)
      refine ⟨ok.nbs r hr y hy, .inr ⟨Ne.symm yv, ?_⟩⟩
      by_cases e : r.1 = v
      · show Nb t v (if r.1 = v then y else b) ∧ Away t v (if r.1 = v then y else b) y
        rw [if_pos e]
        exact ⟨⟨r, hr, e, hy⟩, .here yv⟩
      · show Nb t v (if r.1 = v then y else b) ∧ Away t v (if r.1 = v then y else b) y
        rw [if_neg e]
        rcases (h.ok _ hu).2 with ⟨e2, _⟩ | ⟨_, h1, h2⟩
        · exact (e e2.symm).elim
        · exact ⟨h1, .on h2 ⟨r, hr, rfl, hy⟩ yv⟩
  v := by
    show v ∈ List.map (fun q : Str × Str => q.1) (fs ++ [_])
    rw [List.map_append]
    exact List.mem_append_left _ h.v
def spTow : Sp := fun vs H Q _ => ∃ (d : Addr) (t : List Row) (v : Row), vs = [.ref d, .str v.1] ∧ TreeAt H d t ∧ OkTree t ∧ v ∈ t ∧
  ∀ (H' : Hp) (p : Addr) (fs : List (Str × Str)), Same H H' → H p = none → H' p = some (.dK (kvS fs)) → Fnd t v.1 fs → (∀ r ∈ t, r.1 ∈ keysS fs) → Q (.ref p) H'
/-- d[y] = e; ..: by e's value -/
theorem seq_dput {td ty tv : TE} {u : TS} {D : Ends} {σ : L2.St} {H : Hp} {zz : V} (h1 : ∀ Q : VK, Q zz H → tv σ H Q) (h2 : td σ H fun x H2 => ty σ H2 fun y H3 => ∃ a H4, x = .ref a ∧ DPut H3 a y zz H4 ∧ u D σ H4) : tSeq (sDPut td ty tv) u D σ H := h1 _ h2
section
variable {P : Program} {w : World} {K : PySem.W.Frag} {mg : Str → Option Value} {base : Heap} {f c p1 : Addr} {fd : FuncData} {Ps : List Addr}
theorem ok_tow (F : FunD K "_law_towards" "_law_towards" (defArgs sTow) (defBody sTow) (defScope sTow) [] [] f fd) : FnOk P w K mg base CX0 1 f fd ["tree", "node"] spTow := by
  refine F.ok scTow (fun vs H Q E h => ?_) ?_
  · obtain ⟨d, t, v, rfl, _⟩ := h
    rfl
  intro cdv A outer s H vs Q E hr h
  refine ⟨_, PSs.nox (pss_cons (ps_par (i := 2) (j := 3) rfl scTow.nd rfl rfl (by decide) rfl rfl (pa_cons (pe_disp (pps_cons (pv 1) (pv 1) pps_nil) rfl rfl (by decide) (by decide)) (pa_cons (pe_lst (pa_cons (pv 1) pa_nil)) pa_nil)) (by rfl))
    (pss_cons (ps_while PassesOwn.never (pt_cmpR (op_neD hr.units) (pv 3) (pe_lst pa_nil) (nomark _))
      (pss_cons (ps_set (i := 4) scTow.nd rfl (Or.inl rfl) (pe_lst pa_nil))
      (pss_cons (ps_for PassesOwn.never rfl (pi_list (pv 3)) (pg_name (i := 5) scTow.nd rfl (Or.inl rfl))
        (pss_one (ps_for PassesOwn.never rfl (pi_list (pe_dget (hu_of hr) (pv 0) (pv 5) (fun _ _ => rfl))) (pg_name (i := 6) scTow.nd rfl (Or.inl rfl))
          (pss_one (ps_if (pt_cmp (pc_dnotin (hu_of hr) (pv 6) (pv 2)))
            (pss_cons (ps_dput (hu_of hr) (pv 2) (pv 6) (pe_ifExp (pt_cmpR op_eq (pv 5) (pv 1) (nomark _)) (pv 6) (pe_dget (hu_of hr) (pv 2) (pv 5) (fun _ _ => rfl))) rfl)
            (pss_one (ps_expr (pe_bm PySem.F.plainAttrs_list PySem.F.slot_list_append PySem.F.type_list_append mt_append (pv 4) (pa_cons (pv 6) pa_nil))))) pss_nil)))))
      (pss_one (ps_set (i := 3) scTow.nd rfl (Or.inl rfl) (pv 4))))))
    (pss_one (ps_ret (pv 2))))), ?_⟩
  obtain ⟨d, t, v, rfl, T, ok, hv, hQ⟩ := h
  have n40 := ok.n40
  refine fun p hp => ⟨_, rfl, _, rfl, upd_same, [(Sum.inr v.1, .str v.1)], rfl, by show 1 ≤ 15; decide, ?_⟩
  refine ⟨_, rfl, by show 1 ≤ sizeLine; decide, fun E0 hE0 => ⟨_, _, rfl, ?_⟩⟩
  have pE : p ≠ E0 := fun z => by rw [← z, upd_same] at hE0; cases hE0
  have hE00 : H E0 = none := by
    rw [upd_ne (Ne.symm pE), upd_ne (Ne.symm pE)] at hE0
    exact hE0
  have keyOf : ∀ {fs : List (Str × Str)} {u : Str}, u ∈ keysS fs → ∃ b, (u, b) ∈ fs := fun h => by
    obtain ⟨q, hq, e⟩ := List.mem_map.mp h
    exact ⟨q.2, by rw [← e]; exact hq⟩
  refine ⟨fun m σ H' => ∃ (fs : List (Str × Str)) (es : List Str) (E : Addr) (v4 v5 v6 : Option V), m = 2 * (t.length - fs.length) + (if es = [] then 0 else 1) ∧ es.length ≤ 40 ∧ σ = [some (.ref d), some (.str v.1), some (.ref p), some (.ref E), v4, v5, v6] ∧ Same H H' ∧ H' p = some (.dK (kvS fs)) ∧ H' E = some (.lst (es.map V.str)) ∧
    Fnd t v.1 fs ∧ (∀ y ∈ es, y ∈ keysS fs) ∧ ∀ r ∈ t, r.1 ∈ keysS fs → r.1 ∉ es → ∀ y ∈ r.2.2, y ∈ keysS fs, ⟨_, [(v.1, v.1)], [v.1], E0, none, none, none, rfl, by show 1 ≤ 40; decide, rfl, fun b o e => ?_, ?_, ?_, ⟨by simp, fun q hq => ?_, List.mem_cons_self⟩, fun y hy => hy, fun r hr hk hn => (hn hk).elim⟩, ?_⟩
  · rw [upd_ne (ne_of_none e hE00), upd_ne (ne_of_none e hp), upd_ne (ne_of_none e hp)]
    exact e
  · rw [upd_ne pE]
    exact upd_same
  · exact upd_same
  · rw [List.mem_singleton.mp hq]
    exact ⟨⟨v, hv, rfl⟩, .inl ⟨rfl, rfl⟩⟩
  rintro m σ H1 ⟨fs, es, E, v4, v5, v6, rfl, e40, rfl, sm, hp1, hE1, Fd, hes, cl⟩
  have pE1 : p ≠ E := fun z => by rw [← z, hp1] at hE1; cases hE1
  refine ⟨_, rfl, by show 0 ≤ sizeLine; exact Nat.zero_le _, fun e0 he0 => ?_⟩
  have se : Same H1 (upd H1 e0 (.lst [])) := snew he0
  have esA : ∀ y ∈ es, Ascii y := fun y hy => by
    obtain ⟨b, hb⟩ := keyOf (hes y hy)
    obtain ⟨r, hr, er⟩ := (Fd.ok _ hb).1
    have er' : r.1 = y := er
    rw [← er']
    exact (ok.names r hr).asc
  refine ⟨.list (es.map .str), .list [], .lst (.inl (.inl (se _ _ hE1))) (dpAll_strs _), .lst (.inl (.inl upd_same)) .nil, shaped_strs esA, rfl, _, rfl, ?_⟩
  have s1 : Same H (upd H1 e0 (.lst [])) := sm.trans se
  have hp2 := se _ _ hp1
  have hE2 := se _ _ hE1
  generalize upd H1 e0 (.lst []) = H2 at s1 hp2 hE2
  cases hes0 : es with
  | nil =>
    subst hes0
    refine iteF ?_
    refine ⟨_, rfl, hQ _ p fs s1 hp hp2 Fd ?_⟩
    exact ok.conn (fun y => y ∈ keysS fs) ⟨v, hv, Fd.v⟩ fun r hr hk => cl r hr hk List.not_mem_nil
  | cons w0 wr =>
    refine iteT ?_
    rw [← hes0]
    have ne0 : es ≠ [] := by rw [hes0]; exact List.cons_ne_nil _ _
    clear hes0
    refine ⟨fun σ' H' => ∃ (fs' : List (Str × Str)) (es' : List Str) (E' : Addr) (v4 v5 v6 : Option V), 2 * (t.length - fs'.length) + (if es' = [] then 0 else 1) < 2 * (t.length - fs.length) + (if es = [] then 0 else 1) ∧ es'.length ≤ 40 ∧ σ' = [some (.ref d), some (.str v.1), some (.ref p), some (.ref E'), v4, v5, v6] ∧ Same H H' ∧ H' p = some (.dK (kvS fs')) ∧ H' E' = some (.lst (es'.map V.str)) ∧
      Fnd t v.1 fs' ∧ (∀ y ∈ es', y ∈ keysS fs') ∧ ∀ r ∈ t, r.1 ∈ keysS fs' → r.1 ∉ es' → ∀ y ∈ r.2.2, y ∈ keysS fs', fun σ' H' ⟨fs', es', E', v4, v5, v6, lt, r⟩ => ⟨_, lt, fs', es', E', v4, v5, v6, rfl, r⟩, ?_⟩
    refine ⟨by show 0 ≤ sizeLine; exact Nat.zero_le _, fun L hL => ?_⟩
    have s3 : Same H2 (upd H2 L (.lst [])) := snew hL
    have hL3 : upd H2 L (.lst []) L = some (.lst (([] : List Str).map V.str)) := upd_same
    have HL : H L = none := s1.free hL
    have LE : E ≠ L := ne_of_none hE2 hL
    have Lp : p ≠ L := ne_of_none hp2 hL
    have s13 := s1.trans s3
    have hp3 := s3 _ _ hp2
    have hE3 := s3 _ _ hE2
    generalize upd H2 L (.lst []) = H3 at s3 hL3 s13 hp3 hE3
    refine ⟨_, rfl, E, rfl, ⟨_, .inl (.inl hE3)⟩, ?_⟩
    refine for_list (K := K) (xs := es.map V.str) (fun i σ' H' => ∃ (fs' : List (Str × Str)) (ls : List Str) (v5 v6 : Option V), σ' = [some (.ref d), some (.str v.1), some (.ref p), some (.ref E), some (.ref L), v5, v6] ∧ Same H H' ∧ H' p = some (.dK (kvS fs')) ∧ H' E = some (.lst (es.map V.str)) ∧ H' L = some (.lst (ls.map V.str)) ∧
      Fnd t v.1 fs' ∧ (∀ y ∈ ls, y ∈ keysS fs') ∧ (∀ y ∈ es, y ∈ keysS fs') ∧ fs.length + ls.length = fs'.length ∧ ∀ r ∈ t, r.1 ∈ keysS fs' → r.1 ∉ ls → r.1 ∉ es.drop i → ∀ y ∈ r.2.2, y ∈ keysS fs')
      ⟨fs, [], _, _, rfl, s13, hp3, hE3, hL3, Fd, fun y hy => absurd hy List.not_mem_nil, hes, rfl, fun r hr hk _ hn => cl r hr hk hn⟩ (fun i σ' H' _ ⟨_, _, _, _, _, _, _, h, _⟩ => .inl (.inl h)) ?_ ?_
    · rintro i xv σ' H' hxi ⟨fs', ls, v5, v6, rfl, sm', hp', hE', hL', Fd', hls', hes', cnt, cl'⟩
      rw [List.getElem?_map] at hxi
      cases hu : es[i]? with
      | none => rw [hu] at hxi; cases hxi
      | some u =>
      rw [hu] at hxi
      cases hxi
      have hum : u ∈ es := List.mem_of_getElem? hu
      obtain ⟨b0, hb0⟩ := keyOf (hes' u hum)
      obtain ⟨r, hrt, er⟩ := (Fd'.ok _ hb0).1
      have er : r.1 = u := er
      subst er
      have T' : ∀ {G : Hp}, Same H G → TreeAt G d t := fun s => ⟨T.d.elim (fun e => .inl (s _ _ e)) fun ⟨o, e⟩ => .inr ⟨o, s _ _ e⟩, fun r hr => s _ _ (T.rows r hr)⟩
      refine ⟨_, rfl, _, rfl, d, _, rfl, (T' sm').get ok hrt, r.2.1, rfl, ⟨_, (T' sm').row hrt K⟩, ?_⟩
      refine for_list (K := K) (xs := r.2.2.map V.str) (fun j σ' H' => ∃ (fs' : List (Str × Str)) (ls : List Str) (v6 : Option V), σ' = [some (.ref d), some (.str v.1), some (.ref p), some (.ref E), some (.ref L), some (.str r.1), v6] ∧ Same H H' ∧ H' p = some (.dK (kvS fs')) ∧ H' E = some (.lst (es.map V.str)) ∧ H' L = some (.lst (ls.map V.str)) ∧
        Fnd t v.1 fs' ∧ (∀ y ∈ ls, y ∈ keysS fs') ∧ (∀ y ∈ es, y ∈ keysS fs') ∧ fs.length + ls.length = fs'.length ∧ (r.1, b0) ∈ fs' ∧ (∀ s ∈ t, s.1 ∈ keysS fs' → s.1 ∉ ls → s.1 ∉ es.drop i → ∀ y ∈ s.2.2, y ∈ keysS fs') ∧ ∀ k, k < j → ∀ y, r.2.2[k]? = some y → y ∈ keysS fs')
        ⟨fs', ls, _, rfl, sm', hp', hE', hL', Fd', hls', hes', cnt, hb0, cl', fun k hk => absurd hk (Nat.not_lt_zero _)⟩ (fun j σ' H' _ ⟨_, _, _, _, s, _⟩ => (T' s).row hrt K) ?_ ?_
      · rintro j yv σ' H' hyj ⟨fs', ls, v6, rfl, sm', hp', hE', hL', Fd', hls', hes', cnt, hb, cl', don⟩
        rw [List.getElem?_map] at hyj
        cases hy : r.2.2[j]? with
        | none => rw [hy] at hyj; cases hyj
        | some y =>
        rw [hy] at hyj
        cases hyj
        have hyr : y ∈ r.2.2 := List.mem_of_getElem? hy
        refine ⟨_, rfl, _, rfl, p, _, rfl, .inl ⟨_, Sum.inr y, .inl hp', rfl, rfl⟩, _, rfl, ?_⟩
        rw [kvS_get]
        have step : ∀ {fs2 : List (Str × Str)}, (∀ z, z ∈ keysS fs' → z ∈ keysS fs2) → y ∈ keysS fs2 → ∀ k, k < j + 1 → ∀ y', r.2.2[k]? = some y' → y' ∈ keysS fs2 := fun mono yk k hk y' hy' => by
          by_cases z : k = j
          · rw [z, hy] at hy'
            cases hy'
            exact yk
          · exact mono _ (don k (by omega) y' hy')
        by_cases hk : y ∈ keysS fs'
        · rw [decide_eq_true hk]
          refine iteF ?_
          exact ⟨fs', ls, _, rfl, sm', hp', hE', hL', Fd', hls', hes', cnt, hb, cl', step (fun _ h => h) hk⟩
        · rw [decide_eq_false hk]
          refine iteT ?_
          have Fd2 := Fd'.add ok hrt hb hyr hk
          have l2 := Fd2.len
          rw [List.length_append] at l2
          simp only [List.length_singleton] at l2
          have put : DPut H' p (.str y) (.str (if r.1 = v.1 then y else b0)) (upd H' p (.dK (kvS (fs' ++ [(y, if r.1 = v.1 then y else b0)])))) := by
            have := DPut.k (k := Sum.inr y) (v := .str (if r.1 = v.1 then y else b0)) hp' (by rw [kvS, List.length_map, sizeLine_eq]; omega)
            rw [kvS_put _ hk] at this
            exact this
          refine seq_dput (zz := .str (if r.1 = v.1 then y else b0)) (fun Q' hQ' => ?_) ?_
          · refine ⟨_, rfl, _, rfl, rfl, _, rfl, ?_⟩
            by_cases ev : r.1 = v.1
            · rw [decide_eq_true (congrArg V.str ev)]
              rw [if_pos ev] at hQ'
              exact iteT ⟨_, rfl, hQ'⟩
            · rw [decide_eq_false (fun z => ev (V.str.inj z))]
              rw [if_neg ev] at hQ'
              exact iteF ⟨_, rfl, _, rfl, p, _, rfl, .inl ⟨_, Sum.inr r.1, .inl hp', rfl, (kvS_val hb Fd'.nd).symm⟩, hQ'⟩
          refine ⟨_, rfl, _, rfl, p, _, rfl, put, ?_⟩
          have hL2 : upd H' p (.dK (kvS (fs' ++ [(y, if r.1 = v.1 then y else b0)]))) L = some (.lst (ls.map V.str)) := by rw [upd_ne (Ne.symm Lp)]; exact hL'
          have mono : ∀ z, z ∈ keysS fs' → z ∈ keysS (fs' ++ [(y, if r.1 = v.1 then y else b0)]) := fun z hz => by
            show z ∈ List.map (fun q : Str × Str => q.1) (fs' ++ [_])
            rw [List.map_append]
            exact List.mem_append_left _ hz
          have yk : y ∈ keysS (fs' ++ [(y, if r.1 = v.1 then y else b0)]) := by
            show y ∈ List.map (fun q : Str × Str => q.1) (fs' ++ [_])
            rw [List.map_append]
            exact List.mem_append_right _ (List.mem_singleton.mpr rfl)
          refine ⟨_, rfl, .inl ⟨rfl, _, .inl (.inl hL2)⟩, _, rfl, L, _, _, rfl, rfl, hL2, by rw [List.length_map, sizeLine_eq]; omega, fs' ++ [(y, if r.1 = v.1 then y else b0)], ls ++ [y], _, rfl, fun b o e => ?_, ?_, ?_, ?_, Fd2, fun z hz => ?_, fun z hz => mono _ (hes' z hz), ?_, List.mem_append_left _ hb, fun s hs hks hns hnd y' hy' => ?_, step mono yk⟩
          · rw [upd_ne (ne_of_none e HL), upd_ne (ne_of_none e hp)]
            exact sm' b o e
          · rw [upd_ne Lp]
            exact upd_same
          · rw [upd_ne LE, upd_ne (Ne.symm pE1)]
            exact hE'
          · rw [upd_same, List.map_append]
            rfl
          · rcases List.mem_append.mp hz with z' | z'
            · exact mono _ (hls' z z')
            · rw [List.mem_singleton.mp z']
              exact yk
          · rw [List.length_append, List.length_append]
            simp only [List.length_singleton]
            omega
          · have hs' : s.1 ∈ keysS fs' := by
              have h' : s.1 ∈ (fs' ++ [(y, if r.1 = v.1 then y else b0)]).map (·.1) := hks
              rw [List.map_append] at h'
              rcases List.mem_append.mp h' with z | z
              · exact z
              · exact (hns (List.mem_append_right _ z)).elim
            exact mono _ (cl' s hs hs' (fun z => hns (List.mem_append_left _ z)) hnd y' hy')
      · rintro σ' H' ⟨fs', ls, v6, rfl, sm', hp', hE', hL', Fd', hls', hes', cnt, hb, cl', don⟩
        refine ⟨fs', ls, _, _, rfl, sm', hp', hE', hL', Fd', hls', hes', cnt, fun s hs hk hn hd => ?_⟩
        by_cases e : s.1 = r.1
        · rw [ok.one hs hrt e]
          intro y hy
          obtain ⟨j, hj, ej⟩ := List.mem_iff_getElem.mp hy
          exact don j (by rw [List.length_map]; exact hj) y (by rw [List.getElem?_eq_getElem hj, ej])
        · refine cl' s hs hk hn fun z => ?_
          have dr : es.drop i = r.1 :: es.drop (i + 1) := by
            obtain ⟨li, ei⟩ := List.getElem?_eq_some_iff.mp hu
            rw [List.drop_eq_getElem_cons li, ei]
          rw [dr] at z
          rcases List.mem_cons.mp z with z | z
          · exact e z
          · exact hd z
    · rintro σ' H' ⟨fs', ls, v5, v6, rfl, sm', hp', hE', hL', Fd', hls', hes', cnt, cl'⟩
      rw [List.length_map, List.drop_length] at cl'
      have l1 := Fd'.len
      refine ⟨_, rfl, fs', ls, L, _, _, _, ?_, by omega, rfl, sm', hp', hL', Fd', hls', fun r hr hk hn => cl' r hr hk hn List.not_mem_nil⟩
      rw [if_neg ne0]
      cases ls with
      | nil =>
        rw [if_pos rfl]
        simp only [List.length_nil] at cnt
        omega
      | cons a b =>
        rw [if_neg (List.cons_ne_nil _ _)]
        simp only [List.length_cons] at cnt
        omega
end
end A8
set_option Elab.async false
set_option linter.all false
set_option maxRecDepth 100000
set_option maxHeartbeats 4000000
namespace A8
open PySem PySem.Spec PyProof.Rows L2 AL
open GxR (TabB TabG Tabbed)
theorem cut1 (xs : List V) : cutV xs (some 1) Option.none = xs.drop 1 := by
  unfold cutV
  have e1 : HT.sIx xs.length xs.length Option.none = xs.length := rfl
  have e2 : HT.sIx xs.length 0 (some 1) = min 1 xs.length := by
    unfold HT.sIx
    simp
  rw [e1, e2]
  cases xs with
  | nil => rfl
  | cons x r =>
    have : min 1 (x :: r).length = 1 := by simp
    rw [this]
    exact List.take_of_length_le (by simp)
abbrev sLView : Stmt := top 32
theorem scLView : FnScope ["tree", "line", "node", "found", "towards", "last", "entry", "here"] ["tree", "line", "node"] (defScope sLView) := ⟨rfl, rfl, rfl, by decide +kernel, rfl, by decide +kernel, by decide +kernel⟩
def spLView : Sp := fun vs H Q _ => ∃ (d l : Addr) (t : List Row) (ln : List Str) (v : Row), vs = [.ref d, .ref l, .str v.1] ∧ TreeAt H d t ∧ OkTree t ∧ H l = some (.lst (ln.map V.str)) ∧ OkLine t ln ∧ v ∈ t ∧
  ∀ (H' : Hp) (q : Addr), Same H H' → H q = none → H' q = some (.lst ((viewN t v.1 ln).map V.str)) → Q (.ref q) H'
section
variable {P : Program} {w : World} {K : PySem.W.Frag} {mg : Str → Option Value} {base : Heap} {f c p1 : Addr} {fd : FuncData} {Ps : List Addr}
theorem ok_lview (F : FunD K "_law_view" "_law_view" (defArgs sLView) (defBody sLView) (defScope sLView) [] [] f fd) (cT : Cal P w K mg base 1 "_law_towards" spTow) : FnOk P w K mg base CX0 2 f fd ["tree", "line", "node"] spLView := by
  refine F.ok scLView (fun vs H Q E h => ?_) ?_
  · obtain ⟨d, l, t, ln, v, rfl, _⟩ := h
    rfl
  intro cdv A outer s H vs Q E hr h
  refine ⟨_, PSs.nox (pss_cons (ps_par (i := 3) (j := 4) rfl scLView.nd rfl rfl (by decide) rfl rfl (pa_cons (pe_lst pa_nil) (pa_cons (pe_c cT hr (by decide) rfl (pa_cons (pv 0) (pa_cons (pv 2) pa_nil))) pa_nil)) (by rfl))
    (pss_cons (ps_set (i := 5) scLView.nd rfl (Or.inl rfl) (pe_dget (hu_of hr) (pv 4) (pe_ix ix_list (pv 1) pe_int (fun _ _ => rfl)) (fun _ _ => rfl)))
    (pss_cons (ps_for PassesOwn.never rfl (pi_list (pe_slice sl_list (pv 1) (po_some pe_int) po_none)) (pg_name (i := 6) scLView.nd rfl (Or.inl rfl))
      (pss_cons (ps_set (i := 7) scLView.nd rfl (Or.inl rfl) (pe_dget (hu_of hr) (pv 4) (pv 6) (fun _ _ => rfl)))
      (pss_cons (ps_if (PW.pt (pw_or (pt_cmpR op_eq (pv 7) (pv 2) (nomark _)) (pw_or1 (pt_cmpR op_ne (pv 7) (pv 5) rfl)))) (pss_one (ps_expr (pe_bm PySem.F.plainAttrs_list PySem.F.slot_list_append PySem.F.type_list_append mt_append (pv 3) (pa_cons (pv 7) pa_nil)))) pss_nil)
      (pss_one (ps_set (i := 5) scLView.nd rfl (Or.inl rfl) (pv 7))))))
    (pss_one (ps_ret (pv 3)))))), ?_⟩
  obtain ⟨d, l, t, ln, v, rfl, T, ok, hl, ol, hv, hQ⟩ := h
  have n400 := ol.n400
  refine ⟨by show 0 ≤ sizeLine; exact Nat.zero_le _, fun q hq => ?_⟩
  have s1 : Same H (upd H q (.lst [])) := snew hq
  have hq1 : upd H q (.lst []) q = some (.lst []) := upd_same
  generalize upd H q (.lst []) = H1 at s1 hq1
  have T1 : TreeAt H1 d t := ⟨T.d.elim (fun e => .inl (s1 _ _ e)) fun ⟨o, e⟩ => .inr ⟨o, s1 _ _ e⟩, fun r hr => s1 _ _ (T.rows r hr)⟩
  refine ⟨_, rfl, _, rfl, d, t, v, rfl, T1, ok, hv, fun H2 p fs s2 hp0 hp Fd all => ⟨_, _, rfl, ?_⟩⟩
  have look : ∀ {H' : Hp} {r : Row}, H' p = some (.dK (kvS fs)) → r ∈ t → DGet H' p (.str r.1) (some (.str (dirN t v.1 r.1))) := fun {H' r} h hr => by
    obtain ⟨e, he, ee⟩ := List.mem_map.mp (all _ hr)
    have dr := (Fd.ok e he).2
    have he' : (r.1, e.2) ∈ fs := by rw [← ee]; exact he
    rw [ee] at dr
    rw [dirN_eq ok hr dr]
    exact .inl ⟨_, Sum.inr r.1, .inl h, rfl, (kvS_val he' Fd.nd).symm⟩
  cases hln : ln with
  | nil =>
    have := ol.n1
    rw [hln] at this
    exact absurd this (by decide)
  | cons x r =>
  subst hln
  obtain ⟨rx, hrx, ex⟩ := ol.nodes x List.mem_cons_self
  subst ex
  have hl2 := s2 _ _ (s1 _ _ hl)
  have hq2 := s2 _ _ hq1
  refine ⟨_, rfl, _, rfl, l, _, _, _, rfl, rfl, .inl (.inl hl2), atI_nat (j := 0) rfl, p, _, rfl, look hp hrx, ?_⟩
  refine ⟨_, rfl, _, rfl, l, _, rfl, .inl (.inl hl2), fun sl hsl => ⟨sl, rfl, ⟨_, .inl (.inl upd_same)⟩, ?_⟩⟩
  rw [cut1]
  have s3 : Same H2 (upd H2 sl (.lst (((rx.1 :: r).map V.str).drop 1))) := snew hsl
  have hs3 : upd H2 sl (.lst (((rx.1 :: r).map V.str).drop 1)) sl = some (.lst (r.map V.str)) := upd_same
  have qsl : q ≠ sl := ne_of_none hq2 hsl
  generalize upd H2 sl (.lst (((rx.1 :: r).map V.str).drop 1)) = H3 at s3 hs3
  have s13 : Same H H3 := s1.trans (s2.trans s3)
  have qp : q ≠ p := fun z => by rw [z, hp] at hq2; cases hq2
  refine for_list (K := K) (xs := r.map V.str) (fun i σ' H' => ∃ (v6 v7 : Option V) (pre : List Str) (a : Str), σ' = [some (.ref d), some (.ref l), some (.str v.1), some (.ref q), some (.ref p), some (.str (dirN t v.1 a)), v6, v7] ∧ (rx.1 :: r).take (i + 1) = pre ++ [a] ∧ (∃ ra ∈ t, ra.1 = a) ∧ Same H H' ∧ H' p = some (.dK (kvS fs)) ∧ H' sl = some (.lst (r.map V.str)) ∧
    H' q = some (.lst ((viewN t v.1 ((rx.1 :: r).take (i + 1))).map V.str))) ⟨_, _, [], rx.1, rfl, rfl, ⟨rx, hrx, rfl⟩, s13, s3 _ _ hp, hs3, s3 _ _ hq2⟩ (fun i σ' H' _ ⟨_, _, _, _, _, _, _, _, _, h, _⟩ => .inl (.inl h)) ?_ ?_
  · rintro i xv σ' H' hxi ⟨v6, v7, pre, a, rfl, tk, ⟨ra, hra, era⟩, sm, hp', hs', hq'⟩
    rw [List.getElem?_map] at hxi
    cases hy : r[i]? with
    | none => rw [hy] at hxi; cases hxi
    | some y =>
    rw [hy] at hxi
    cases hxi
    have hi : i < r.length := (List.getElem?_eq_some_iff.mp hy).1
    obtain ⟨rb, hrb, eb⟩ := ol.nodes y (List.mem_cons_of_mem _ (List.mem_of_getElem? hy))
    subst eb
    have tk2 : (rx.1 :: r).take (i + 1 + 1) = pre ++ [a] ++ [rb.1] := by
      rw [List.take_succ, tk]
      rw [List.getElem?_cons_succ, hy]
      rfl
    have sn := viewF_snoc v.1 (dirN t v.1) pre a rb.1
    rw [← tk2, ← tk] at sn
    refine ⟨_, rfl, _, rfl, p, _, rfl, look hp' hrb, ?_⟩
    have put : seen1 v.1 (dirN t v.1) a rb.1 = [dirN t v.1 rb.1] → upd H' q (.lst ((viewN t v.1 ((rx.1 :: r).take (i + 1))).map V.str ++ [.str (dirN t v.1 rb.1)])) q = some (.lst ((viewN t v.1 ((rx.1 :: r).take (i + 1 + 1))).map V.str)) := fun e => by
      rw [upd_same, viewN, viewN, sn, e, List.map_append]
      rfl
    have sz : ((viewN t v.1 ((rx.1 :: r).take (i + 1))).map V.str).length < sizeLine := by
      have := viewF_len v.1 (dirN t v.1) ((rx.1 :: r).take (i + 1))
      rw [List.length_take] at this
      have n4 : (rx.1 :: r).length ≤ 400 := n400
      rw [List.length_map, sizeLine_eq, viewN]
      omega
    have keep : ∀ {o : HO}, Same H (upd H' q o) := fun b o e => by
      rw [upd_ne (ne_of_none e hq)]
      exact sm b o e
    have kp : ∀ {o : HO}, upd H' q o p = some (.dK (kvS fs)) := by
      intro o
      rw [upd_ne (Ne.symm qp)]
      exact hp'
    have ks : ∀ {o : HO}, upd H' q o sl = some (.lst (r.map V.str)) := by
      intro o
      rw [upd_ne (Ne.symm qsl)]
      exact hs'
    refine ⟨_, rfl, _, rfl, rfl, _, rfl, ?_⟩
    by_cases c1 : dirN t v.1 rb.1 = v.1
    · have e1 : seen1 v.1 (dirN t v.1) a rb.1 = [dirN t v.1 rb.1] := if_pos (.inl c1)
      rw [decide_eq_true (congrArg V.str c1)]
      refine iteT ?_
      exact ⟨_, rfl, .inl ⟨rfl, _, .inl (.inl hq')⟩, _, rfl, q, _, _, rfl, rfl, hq', sz, _, rfl, _, _, pre ++ [a], rb.1, rfl, tk2, ⟨rb, hrb, rfl⟩, keep, kp, ks, put e1⟩
    · rw [decide_eq_false (fun z => c1 (V.str.inj z))]
      refine iteF ⟨_, rfl, _, rfl, rfl, _, rfl, ?_⟩
      by_cases c2 : dirN t v.1 rb.1 = dirN t v.1 a
      · have e1 : seen1 v.1 (dirN t v.1) a rb.1 = [] := if_neg fun z => z.elim c1 fun w => w c2
        refine iteNS (congrArg V.str c2) ?_
        exact ⟨_, rfl, _, _, pre ++ [a], rb.1, rfl, tk2, ⟨rb, hrb, rfl⟩, sm, hp', hs', by rw [viewN, sn, e1, List.append_nil]; exact hq'⟩
      · have e1 : seen1 v.1 (dirN t v.1) a rb.1 = [dirN t v.1 rb.1] := if_pos (.inr c2)
        rw [decide_eq_false (fun z => c2 (V.str.inj z))]
        refine iteT ?_
        exact ⟨_, rfl, .inl ⟨rfl, _, .inl (.inl hq')⟩, _, rfl, q, _, _, rfl, rfl, hq', sz, _, rfl, _, _, pre ++ [a], rb.1, rfl, tk2, ⟨rb, hrb, rfl⟩, keep, kp, ks, put e1⟩
  · rintro σ' H' ⟨v6, v7, pre, a, rfl, tk, _, sm, hp', hs', hq'⟩
    rw [List.length_map, List.take_of_length_le (by simp)] at hq'
    exact ⟨_, rfl, hQ H' q sm hq hq'⟩
end
end A8
set_option Elab.async false
set_option linter.all false
set_option maxRecDepth 100000
set_option maxHeartbeats 4000000
namespace A8
open PySem PySem.Spec PyProof.Rows L2 AL
open GxR (TabB TabG Tabbed)
def wo (p : Addr) (H : Hp) : Hp := fun b => if b = p then none else H b
abbrev sRight : Stmt := top 33
abbrev nRight : List Str := ["pot", "tree", "line", "due", "kept", "turn", "told", "node"]
theorem scRight : FnScope nRight ["pot", "tree", "line"] (defScope sRight) := ⟨rfl, rfl, rfl, by decide +kernel, rfl, by decide +kernel, by decide +kernel⟩
def spRight (Ps : List Addr) : Sp := fun vs H Q _ => ∃ (p d l : Addr) (t : List Row) (ln : List Str) (n : Nat), vs = [.ref p, .ref d, .ref l] ∧ H d = some (.dK (kvsOf t)) ∧ RowsAt H t ∧ OkTree t ∧ H l = some (.lst (ln.map V.str)) ∧ OkLine t ln ∧ PotAt H p n ∧ n + 50 < 2 ^ 40 ∧ Tabs Ps H ∧ SysOk H ∧
  ∀ H', Ext Ps (wo p H) H' → PotAt H' p (n + 50) → Q (.bl true) H'
theorem wo_ne {p b : Addr} {H : Hp} (h : b ≠ p) : wo p H b = H b := if_neg h
theorem wo_p {p : Addr} {H : Hp} : wo p H p = none := if_pos rfl
theorem wo_same {p : Addr} {H : Hp} : Same (wo p H) H := fun b o e => by
  by_cases z : b = p
  · rw [z, wo_p] at e
    cases e
  · rw [wo_ne z] at e
    exact e
theorem Ext.kp' {Ps : List Addr} {HB H H' : Hp} {p : Addr} {n : Nat} (e : Ext Ps HB H) (hb : HB p = Option.none) (hp : PotAt H p n) (k : Kp p H H') : Ext Ps HB H' where
  kp := fun b o h z => k b o (ne_of_none h hb) (e.kp b o h z)
  tb := fun q hq h => by
    obtain ⟨ps, e1, e2⟩ := e.tb q hq h
    exact ⟨ps, k q _ (hp.ne' e1 fun _ _ _ z => by cases z) e1, e2⟩
theorem Ext.sys {Ps : List Addr} {H H' : Hp} (e : Ext Ps H H') (t : Tabs Ps H) (h : SysOk H) : SysOk H' := by
  obtain ⟨o, φ, h⟩ := h
  exact ⟨o, φ, e.get t h fun _ z => by cases z⟩
theorem PotAt.ext {Ps : List Addr} {H H' : Hp} {p : Addr} {n : Nat} (h : PotAt H p n) (e : Ext Ps H H') (t : Tabs Ps H) : PotAt H' p n := by
  obtain ⟨x, y, z, a, b⟩ := h
  exact ⟨x, y, z, e.get t a (fun _ z => HO.noConfusion z), b⟩
/-- the tree, the line, what is due -/
structure Bk (Ps : List Addr) (H : Hp) (d l : Addr) (t : List Row) (ln : List Str) (U : Addr) (du : List Row) : Prop where
  tabs : Tabs Ps H
  sys : SysOk H
  d : H d = some (.dK (kvsOf t))
  R : RowsAt H t
  l : H l = some (.lst (ln.map V.str))
  U : H U = some (.dK (kvsOf du))
  Ru : RowsAt H du
theorem Bk.ext {Ps : List Addr} {H H' : Hp} {d l U : Addr} {t du : List Row} {ln : List Str} (b : Bk Ps H d l t ln U du) (e : Ext Ps H H') : Bk Ps H' d l t ln U du :=
  ⟨e.tabs b.tabs, e.sys b.tabs b.sys, e.get b.tabs b.d fun _ z => (by cases z), e.rows b.tabs b.R, e.get b.tabs b.l fun _ z => (by cases z), e.get b.tabs b.U fun _ z => (by cases z), e.rows b.tabs b.Ru⟩
theorem viewF_mem {v : Str} {δ : Str → Str} : ∀ {l : List Str} {z : Str}, z ∈ viewF v δ l → ∃ b ∈ l, z = δ b
  | [], z, h => absurd h List.not_mem_nil
  | [_], z, h => absurd h List.not_mem_nil
  | a :: b :: r, z, h => by
    have h' : z ∈ seen1 v δ a b ++ viewF v δ (b :: r) := h
    rcases List.mem_append.mp h' with q | q
    · unfold seen1 at q
      split at q
      · exact ⟨b, List.mem_cons_of_mem _ List.mem_cons_self, List.mem_singleton.mp q⟩
      · exact absurd q List.not_mem_nil
    · obtain ⟨c, hc, e⟩ := viewF_mem q
      exact ⟨c, List.mem_cons_of_mem _ hc, e⟩
theorem dirN_node {t : List Row} (ok : OkTree t) {v r : Row} (hv : v ∈ t) (hr : r ∈ t) : ∃ s ∈ t, s.1 = dirN t v.1 r.1 := by
  obtain ⟨ps, h⟩ := exists_steps ok hr
  obtain ⟨q, hq, eq⟩ := List.mem_map.mp (h.all v hv)
  have hq' : (v.1, q.2) ∈ ps := by rw [← eq]; exact hq
  have dr := h.dr ok hq'
  rw [dirN_eq ok hr dr]
  rcases dr with ⟨_, e⟩ | ⟨_, ⟨s, hs, es, hy⟩, _⟩
  · exact ⟨v, hv, e.symm⟩
  · exact ok.nbs s hs _ hy
theorem viewN_names {t : List Row} {ln : List Str} (ok : OkTree t) (ol : OkLine t ln) {v : Row} (hv : v ∈ t) : ∀ z ∈ viewN t v.1 ln, NameOk z := fun z hz => by
  obtain ⟨b, hb, e⟩ := viewF_mem hz
  obtain ⟨r, hr, er⟩ := ol.nodes b hb
  obtain ⟨s, hs, es⟩ := dirN_node ok hv hr
  rw [e, ← er, ← es]
  exact ok.names s hs
/-- rows of views -/
structure Vw (t : List Row) (ln : List Str) (vt : List Row) : Prop where
  pm : (vt.map (·.1)).Perm (t.map (·.1))
  so : sortedS (vt.map (·.1)) = true
  vw : ∀ e ∈ vt, e.2.2 = viewN t e.1 ln
theorem Vw.nd {t vt : List Row} {ln : List Str} (h : Vw t ln vt) (ok : OkTree t) : (vt.map (·.1)).Nodup := h.pm.symm.nodup ok.nodup
theorem Vw.names {t vt wt : List Row} {ln : List Str} (h : Vw t ln vt) (k : Vw t ln wt) (ok : OkTree t) : vt.map (·.1) = wt.map (·.1) :=
  sorted_eq h.so (h.nd ok) k.so (k.nd ok) fun x => by rw [h.pm.mem_iff, k.pm.mem_iff]
theorem trD_names (t : List Row) (ln : List Str) {vt : List Row} (h : ∀ e ∈ vt, e.2.2 = viewN t e.1 ln) : trD vt = .dict ((vt.map (·.1)).map fun y => (.str y, .list ((viewN t y ln).map .str))) := by
  unfold trD
  rw [List.map_map]
  refine congrArg PyData.dict (List.map_congr_left fun e he => ?_)
  show (PyData.str e.1, PyData.list (e.2.2.map .str)) = _
  rw [h e he]
  rfl
theorem Vw.data {t vt wt : List Row} {ln : List Str} (h : Vw t ln vt) (k : Vw t ln wt) (ok : OkTree t) : trD vt = trD wt := by
  rw [trD_names t ln h.vw, trD_names t ln k.vw, h.names k ok]
theorem Vw.row {t vt : List Row} {ln : List Str} (h : Vw t ln vt) {v : Row} (hv : v ∈ t) : ∃ e ∈ vt, e.1 = v.1 ∧ e.2.2 = viewN t v.1 ln := by
  obtain ⟨e, he, ee⟩ := List.mem_map.mp (h.pm.symm.subset (List.mem_map.mpr ⟨v, hv, rfl⟩))
  exact ⟨e, he, ee, ee ▸ h.vw e he⟩
theorem Vw.node {t vt : List Row} {ln : List Str} (h : Vw t ln vt) {e : Row} (he : e ∈ vt) : ∃ v ∈ t, v.1 = e.1 := by
  obtain ⟨v, hv, ev⟩ := List.mem_map.mp (h.pm.subset (List.mem_map.mpr ⟨e, he, rfl⟩))
  exact ⟨v, hv, ev⟩
theorem Vw.elem {t vt : List Row} {ln : List Str} (h : Vw t ln vt) (ok : OkTree t) (ol : OkLine t ln) {e : Row} (he : e ∈ vt) : NameOk e.1 ∧ (∀ z ∈ e.2.2, NameOk z) ∧ e.2.2.length ≤ 400 := by
  obtain ⟨v, hv, ev⟩ := h.node he
  refine ⟨ev ▸ ok.names v hv, fun z hz => ?_, ?_⟩
  · rw [h.vw e he, ← ev] at hz
    exact viewN_names ok ol hv z hz
  · rw [h.vw e he]
    have h1 := viewF_len e.1 (dirN t e.1) ln
    have h2 := ol.n400
    unfold viewN
    omega
theorem Vw.len {t vt : List Row} {ln : List Str} (h : Vw t ln vt) : vt.length = t.length := by
  have := h.pm.length_eq
  rw [List.length_map, List.length_map] at this
  exact this
theorem Vw.sm {t vt : List Row} {ln : List Str} (h : Vw t ln vt) (ok : OkTree t) (ol : OkLine t ln) : Sm (trD vt) 2 200000 := by
  have s := Sm.dict (kvs := vt.map fun r => (PyData.str r.1, PyData.list (r.2.2.map .str))) (k := 1) (w := 8) (v := 3600) fun q hq => by
    obtain ⟨r, hr, rfl⟩ := List.mem_map.mp hq
    obtain ⟨h1, h2, h3⟩ := h.elem ok ol hr
    refine ⟨(Sm.str h1).mono (Nat.zero_le _) (Nat.le_refl _), ?_⟩
    have s := (sm_names h2 : SmAll (r.2.2.map PyData.str) 0 8).list
    refine s.mono (Nat.le_refl _) ?_
    rw [List.length_map]
    omega
  refine s.mono (Nat.le_refl _) ?_
  have := h.len
  have := ok.n40
  rw [List.length_map]
  omega
theorem sm_list {xs : List Str} (h : ∀ z ∈ xs, NameOk z) (l : xs.length ≤ 400) : Sm (lnD xs) 1 3600 := by
  have s := (sm_names h : SmAll (xs.map PyData.str) 0 8).list
  refine s.mono (Nat.le_refl _) ?_
  rw [List.length_map]
  omega
theorem asc_one {x : Str} (h : NameOk x) : Ascii (x ++ "1") := fun c hc => by
  have e : (x ++ ("1" : Str)).cps = x.cps ++ ("1" : Str).cps := rfl
  rw [e, Array.toList_append] at hc
  rcases List.mem_append.mp hc with z | z
  · exact h.asc c z
  · have : c = 49 := List.mem_singleton.mp z
    omega
section
variable {P : Program} {w : World} {K : PySem.W.Frag} {mg : Str → Option Value} {base : Heap} {f c p1 : Addr} {fd : FuncData} {Ps : List Addr}
theorem ok_right (F : FunD K "_law_right" "_law_right" (defArgs sRight) (defBody sRight) (defScope sRight) [] [] f fd) (cS : Cal P w K mg base 3 "_law_some" (spSome K)) (cV : Cal P w K mg base 2 "_law_view" spLView) (cW : Cal P w K mg base 9 "view" (spView Ps)) (cX : Cal P w K mg base 9 "views" (spViews Ps))
    (gR : mg "range" = none) (gL : mg "len" = none) (gM : mg "min" = none) (gS : mg "sorted" = none) (gD : mg "dict" = none) (gE : mg "repr" = none) : FnG P w K mg base CX0 10 f fd ["pot", "tree", "line"] (spRight Ps) := by
  refine funG_ok F scRight (fun vs H Q E h => ?_) ?_
  · obtain ⟨p, d, l, t, ln, n, rfl, _⟩ := h
    rfl
  intro cdv A outer s H vs Q E hgd hr h
  refine ⟨_, PSs.nox (pss_cons (ps_set (i := 3) scRight.nd rfl (Or.inr rfl) (pe_callTy (call_dictP rfl) rfl gD (by decide +kernel) (pa_cons
      (pe_lc (own := [("node", 7)]) (g := gName 7) (tt := tYes) (te := tTup (tCons (tVar 7) (tCons (tCall spLView [] E0 (tCons (tVar 1) (tCons (tVar 2) (tCons (tVar 7) tNil)))) tNil))) rfl scRight.nd (pi_list (pe_callB (call_sortedD rfl) rfl gS (by decide +kernel) (pa_cons (pv 1) pa_nil))) (blkOk_by (N := nRight) (sc := defScope sRight) (by decide +kernel))
        (fun _ _ _ _ _ => pg_name (i := 7) scRight.nd rfl (Or.inl rfl)) (fun _ _ _ _ _ => pts_nil) (fun _ _ _ _ _ => pe_tup (pa_cons (pv 7) (pa_cons (pe_c cV hr (by decide) rfl (pa_cons (pv 1) (pa_cons (pv 2) (pa_cons (pv 7) pa_nil)))) pa_nil)))) pa_nil)))
    (pss_cons (ps_set (i := 4) scRight.nd rfl (Or.inl rfl) (pe_callB (call_reprD hr hgd) rfl gE (by decide +kernel) (pa_cons (pe_lst (pa_cons (pv 1) (pa_cons (pv 2) pa_nil))) pa_nil)))
    (pss_cons (ps_for PassesOwn.never rfl (pi_range1 rfl gR (pa_cons pe_int pa_nil)) (pg_name (i := 5) scRight.nd rfl (Or.inl rfl))
      (pss_cons (ps_set (i := 6) scRight.nd rfl (Or.inr rfl) (pe_c cX hr (by decide) rfl (pa_cons (pv 1) (pa_cons (pv 2) pa_nil))))
      (pss_cons (ps_if (PW.pt (pw_or (pt_cmpR op_ne (pe_callB (call_reprD hr hgd) rfl gE (by decide +kernel) (pa_cons (pv 6) pa_nil)) (pe_callB (call_reprD hr hgd) rfl gE (by decide +kernel) (pa_cons (pv 3) pa_nil)) rfl)
          (pw_or1 (pt_cmpR op_ne (pe_callB (call_reprD hr hgd) rfl gE (by decide +kernel) (pa_cons (pe_lst (pa_cons (pv 1) (pa_cons (pv 2) pa_nil))) pa_nil)) (pv 4) rfl)))) pss_never pss_nil)
      (pss_cons (ps_for PassesOwn.never rfl (pi_list (pe_callB (call_sortedD rfl) rfl gS (by decide +kernel) (pa_cons (pv 6) pa_nil))) (pg_name (i := 7) scRight.nd rfl (Or.inl rfl))
        (pss_one (ps_expr (pe_bm PySem.F.plainAttrs_list PySem.F.slot_list_append PySem.F.type_list_append mt_append (pe_dget (hu_of hr) (pv 6) (pv 7) (fun _ _ => rfl)) (pa_cons (pe_op op_add_str (pv 7) pe_str) pa_nil)))))
      (pss_cons (ps_if (pt_cmpR (op_neD hr.units) (pe_lock (pe_lc (own := [("node", 7)]) (g := gName 7) (te := tVar 7)
          (tt := tTest (tOp (rNeD K) (tDGet (tVar 6) (tVar 7)) (tOp rCat (tDGet (tVar 3) (tVar 7)) (tLst (tCons (tOp (fun x y H Q => ∃ i j, x = .str i ∧ y = .str j ∧ i.length + j.length ≤ sizeLine ∧ Q (.str (i ++ j)) H) (tVar 7) (tC (.str "1"))) tNil)))))
          rfl scRight.nd (pi_keys (pv 6)) (blkOk_by (N := nRight) (sc := defScope sRight) (by decide +kernel)) (fun _ _ _ _ _ => pg_name (i := 7) scRight.nd rfl (Or.inl rfl))
          (fun _ _ _ _ _ => pts_one (pt_cmpR (op_neD hr.units) (pe_dget (hu_of hr) (pv 6) (pv 7) (fun _ _ => rfl)) (pe_op op_cat (pe_dget (hu_of hr) (pv 3) (pv 7) (fun _ _ => rfl)) (pe_lst (pa_cons (pe_op op_add_str (pv 7) pe_str) pa_nil))) (nomark _)))
          (fun _ _ _ _ _ => pv 7))) (pe_lst pa_nil) (nomark _)) pss_never pss_nil)
      (pss_one (ps_expr (pe_bm0 PySem.F.plainAttrs_dict PySem.F.slot_dict_clear PySem.F.type_dict_clear mtd_clear (pv 6)))))))))
    (pss_cons (ps_for PassesOwn.never rfl (pi_list (pe_c cS hr (by decide) rfl (pa_cons (pv 0) (pa_cons (pe_callB (call_sortedD rfl) rfl gS (by decide +kernel) (pa_cons (pv 1) pa_nil)) (pa_cons (pe_callB (call_min2 rfl) rfl gM (by decide +kernel) (pa_cons pe_int (pa_cons (pe_callB call_lenD rfl gL boot_len (pa_cons (pv 1) pa_nil)) pa_nil))) pa_nil))))) (pg_name (i := 7) scRight.nd rfl (Or.inl rfl))
      (pss_cons (ps_set (i := 6) scRight.nd rfl (Or.inr rfl) (pe_c cW hr (by decide) rfl (pa_cons (pv 1) (pa_cons (pv 2) (pa_cons (pv 7) pa_nil)))))
      (pss_cons (ps_if (PW.pt (pw_or (pt_cmpR op_ne (pe_callB (call_reprD hr hgd) rfl gE (by decide +kernel) (pa_cons (pv 6) pa_nil)) (pe_callB (call_reprD hr hgd) rfl gE (by decide +kernel) (pa_cons (pe_dget (hu_of hr) (pv 3) (pv 7) (fun _ _ => rfl)) pa_nil)) rfl)
          (pw_or1 (pt_cmpR op_ne (pe_callB (call_reprD hr hgd) rfl gE (by decide +kernel) (pa_cons (pe_lst (pa_cons (pv 1) (pa_cons (pv 2) pa_nil))) pa_nil)) (pv 4) rfl)))) pss_never pss_nil)
      (pss_cons (ps_expr (pe_bm PySem.F.plainAttrs_list PySem.F.slot_list_append PySem.F.type_list_append mt_append (pv 6) (pa_cons pe_str pa_nil)))
      (pss_one (ps_if (pt_cmpR (op_neD hr.units) (pe_c cW hr (by decide) rfl (pa_cons (pv 1) (pa_cons (pv 2) (pa_cons (pv 7) pa_nil)))) (pe_dget (hu_of hr) (pv 3) (pv 7) (fun _ _ => rfl)) (nomark _)) pss_never pss_nil))))))
    (pss_one (ps_ret pe_bl)))))), ?_⟩
  obtain ⟨p, d, l, t, ln, n, rfl, hd, hR, ok, hl, ol, hP, hn, ht, hy, hQ⟩ := h
  have n40 := ok.n40
  have n400 := ol.n400
  have dp : d ≠ p := hP.ne' hd fun _ _ _ z => by cases z
  have lp : l ≠ p := hP.ne' hl names_ne_pot
  have nmEq : ∀ {vt : List Row}, (kvsOf vt).map (·.1) = (vt.map (·.1)).map Sum.inr := fun {vt} => by unfold kvsOf; rw [List.map_map, List.map_map]; rfl
  refine seq_asg (fun v H1 => ∃ (U : Addr) (du : List Row), v = .ref U ∧ Same H H1 ∧ H1 U = some (.dK (kvsOf du)) ∧ RowsAt H1 du ∧ Vw t ln du) (fun Q' hQ' => ?_) ?_
  · refine ⟨_, rfl, d, kvsOf t, t.map (·.1), rfl, .inl hd, nmEq, by rw [List.length_map]; omega, fun ys so pm hso hs0 => ?_⟩
    have s3 : Same H (upd H so (.lst (ys.map V.str))) := snew hs0
    have hso1 : upd H so (.lst (ys.map V.str)) so = some (.lst (ys.map V.str)) := upd_same
    generalize upd H so (.lst (ys.map V.str)) = H3 at s3 hso1
    refine ⟨so, rfl, ⟨_, .inl (.inl hso1)⟩, fun D hD => ?_⟩
    refine lc_list (K := K) (xs := ys.map V.str) (fun i H' => ∃ (du : List Row) (tps : List Addr), Same H3 H' ∧ H' D = some (.lst (tps.map V.ref)) ∧ du.map (·.1) = ys.take i ∧ TupsAt H' tps du ∧ RowsAt H' du ∧ ∀ e ∈ du, e.2.2 = viewN t e.1 ln ∧ e.2.1 ≠ D)
      ⟨[], [], snew hD, upd_same, rfl, .nil, fun r hr => absurd hr List.not_mem_nil, fun r hr => absurd hr List.not_mem_nil⟩ (fun i H' _ ⟨_, _, sm, _⟩ => .inl (.inl (sm _ _ hso1))) ?_ ?_
    · rintro i x H' hx ⟨du, tps, sm, hD', hnm, htp, hdu, hvw⟩
      rw [List.getElem?_map] at hx
      cases hy : ys[i]? with
      | none => rw [hy] at hx; cases hx
      | some y =>
      rw [hy] at hx
      cases hx
      have hi : i < ys.length := (List.getElem?_eq_some_iff.mp hy).1
      obtain ⟨v, hv, ev⟩ := List.mem_map.mp (pm.subset (List.mem_of_getElem? hy))
      have ev : v.1 = y := ev
      subst ev
      have s4 := s3.trans sm
      refine ⟨rfl, _, rfl, _, rfl, _, rfl, _, rfl, d, l, t, ln, v, rfl, ⟨.inl (s4 _ _ hd), fun r hr => s4 _ _ (hR r hr)⟩, ok, s4 _ _ hl, ol, hv, fun H4 q sq hq0 hq => ⟨by show 2 ≤ sizeLine; decide, fun tp htp0 => ?_⟩⟩
      have len : tps.length = i := by
        have e := congrArg List.length hnm
        rw [List.length_map, List.length_take] at e
        rw [htp.len]
        omega
      have yl : ys.length = t.length := by
        have := pm.length_eq
        rw [List.length_map] at this
        exact this
      have hD4 := sq _ _ hD'
      have Dt : D ≠ tp := ne_of_none hD4 htp0
      have qD : q ≠ D := fun z => by rw [z, hD'] at hq0; cases hq0
      refine ⟨tps.map V.ref, by rw [upd_ne Dt]; exact hD4, by rw [List.length_map, len, sizeLine_eq]; omega, du ++ [(v.1, q, viewN t v.1 ln)], tps ++ [tp], fun b o e => ?_, ?_, ?_, ?_, fun r hr => ?_, fun r hr => ?_⟩
      · rw [upd_ne (ne_of_none e hD), upd_ne (ne_of_none (sq _ _ (sm _ _ e)) htp0)]
        exact sq _ _ (sm _ _ e)
      · rw [upd_same, List.map_append]
        rfl
      · rw [List.map_append, hnm, List.take_succ, hy]
        rfl
      · refine TupsAt.snoc (htp.keep fun b xs e => ?_) ?_
        · have z2 : b ≠ D := fun z => by rw [z, hD'] at e; cases e
          rw [upd_ne z2, upd_ne (ne_of_none (sq _ _ e) htp0)]
          exact sq _ _ e
        · rw [upd_ne (Ne.symm Dt)]
          exact upd_same
      · rcases List.mem_append.mp hr with z | z
        · have h1 := sq _ _ (hdu r z)
          rw [upd_ne (hvw r z).2, upd_ne (ne_of_none h1 htp0)]
          exact h1
        · rw [List.mem_singleton.mp z, upd_ne qD, upd_ne (ne_of_none hq htp0)]
          exact hq
      · rcases List.mem_append.mp hr with z | z
        · exact hvw r z
        · rw [List.mem_singleton.mp z]
          exact ⟨rfl, qD⟩
    · rintro H' ⟨du, tps, sm, hD', hnm, htp, hdu, hvw⟩
      rw [List.length_map, List.take_length] at hnm
      refine ⟨D, tps, kvsOf du, rfl, .inl (.inl hD'), htp.pairs, fun U hU => ?_⟩
      rw [mergeK_rows0 (by rw [hnm]; exact pm.symm.nodup ok.nodup)]
      exact hQ' _ _ ⟨U, du, rfl, s3.trans (sm.trans (snew hU)), upd_same, fun r hr => snew hU _ _ (hdu r hr), by rw [hnm]; exact pm, by rw [hnm]; exact hso, fun e he => (hvw e he).1⟩
  rintro v H1 ⟨U, du, rfl, s1, hU, hRu, W⟩
  have b1 : Bk Ps H1 d l t ln U du := ⟨(Ext.same s1).tabs ht, (Ext.same s1).sys ht hy, s1 _ _ hd, fun r hr => s1 _ _ (hR r hr), s1 _ _ hl, hU, hRu⟩
  have hP1 : PotAt H1 p n := hP.ext (Ext.same s1) ht
  have sB := sm_both ok ol.nodes n400
  have sU := W.sm ok ol
  -- kept
  refine ⟨_, rfl, _, rfl, by show 2 ≤ sizeLine; decide, fun L hL => ?_⟩
  have eL : Ext Ps H1 (upd H1 L (.lst [.ref d, .ref l])) := .new hL
  have b2 := b1.ext eL
  have fL : upd H1 L (.lst [.ref d, .ref l]) L = some (.lst [.ref d, .ref l]) := upd_same
  generalize upd H1 L (.lst [.ref d, .ref l]) = H2 at eL b2 fL
  refine ⟨L, bothD t ln, rfl, b2.sys, dat_both fL b2.d b2.R b2.l, sB.sh, Nat.le_trans sB.dp (by decide), sB.fits (by decide), ?_⟩
  have keptOk : ∀ {G : Hp} (R : Bool → Hp → Prop), Bk Ps G d l t ln U du → (∀ G', Ext Ps G G' → R false G') → ∀ σ : L2.St, σ[1]? = some (some (.ref d)) → σ[2]? = some (some (.ref l)) → σ[4]? = some (some (.str (bothD t ln).shown)) →
      tTest (tOp rNe (tCB rRepr (tCons (tLst (tCons (tVar 1) (tCons (tVar 2) tNil))) tNil)) (tVar 4)) σ G R := by
    intro G R b hR σ h1 h2 h4
    refine ⟨_, h1, _, h2, by show 2 ≤ sizeLine; decide, fun L hL => ?_⟩
    have eL : Ext Ps G (upd G L (.lst [.ref d, .ref l])) := .new hL
    have b2 := b.ext eL
    refine ⟨L, bothD t ln, rfl, b2.sys, dat_both upd_same b2.d b2.R b2.l, sB.sh, Nat.le_trans sB.dp (by decide), sB.fits (by decide), _, h4, rfl, _, rfl, ?_⟩
    rw [decide_eq_true rfl]
    exact hR _ eL
  refine ⟨2, rfl, by decide, by decide, ?_⟩
  refine for_range (lo := 0) (n := 2) (fun i σ' H' => ∃ v5 v6 v7, σ' = [some (.ref p), some (.ref d), some (.ref l), some (.ref U), some (.str (bothD t ln).shown), v5, v6, v7] ∧ Ext Ps H1 H') ⟨_, _, _, rfl, eL⟩ ?_ ?_
  · rintro i σ' H3 hi ⟨v5, v6, v7, rfl, E3⟩
    have b3 := b1.ext E3
    refine ⟨_, rfl, _, rfl, d, l, t, ln, rfl, b3.d, b3.R, ok, b3.l, ol, b3.tabs, fun H4 q vt e4 hq0 hq hvR hpm hso hvw hnd hfr => ?_⟩
    have X : Vw t ln vt := ⟨hpm, hso, hvw⟩
    have E4 := E3.trans e4
    have b4 := b3.ext e4
    have sX := X.sm ok ol
    have same : trD vt = trD du := X.data W ok
    have hq1 : H1 q = none := E3.none hq0 b1.tabs
    have hfr1 : ∀ e ∈ vt, H1 e.2.1 = none := fun e he => E3.none (hfr e he).1 b1.tabs
    refine ⟨_, rfl, q, trD vt, rfl, b4.sys, dat_tree hq hvR, sX.sh, Nat.le_trans sX.dp (by decide), sX.fits (by decide), ?_⟩
    refine ⟨_, rfl, U, trD du, rfl, b4.sys, dat_tree b4.U b4.Ru, sU.sh, Nat.le_trans sU.dp (by decide), sU.fits (by decide), rfl, _, rfl, ?_⟩
    refine iteNS (by rw [same]) ?_
    refine keptOk _ b4 (fun H5 e5 => iteF ?_) _ rfl rfl rfl
    have E5 := E4.trans e5
    have b5 := b4.ext e5
    have hq5 := e5.get b4.tabs hq fun _ z => by cases z
    have hvR5 := e5.rows b4.tabs hvR
    -- told is changed
    refine ⟨_, rfl, q, kvsOf vt, vt.map (·.1), rfl, .inl hq5, nmEq, by rw [List.length_map, X.len]; omega, fun ys so pm hso2 hs0 => ?_⟩
    have ysE : ys = vt.map (·.1) := sorted_eq hso2 (pm.symm.nodup (X.nd ok)) X.so (X.nd ok) fun x => pm.mem_iff
    subst ysE
    have sS : Same H5 (upd H5 so (.lst ((vt.map (·.1)).map V.str))) := snew hs0
    have hso1 : upd H5 so (.lst ((vt.map (·.1)).map V.str)) so = some (.lst ((vt.map (·.1)).map V.str)) := upd_same
    generalize upd H5 so (.lst ((vt.map (·.1)).map V.str)) = H6 at sS hso1
    have E6 := E5.trans (Ext.same sS)
    have soRow : ∀ e ∈ vt, e.2.1 ≠ so := fun e he z => by
      have := hvR5 e he
      rw [z, hs0] at this
      cases this
    refine ⟨so, rfl, ⟨_, .inl (.inl hso1)⟩, ?_⟩
    refine for_list (K := K) (xs := (vt.map (·.1)).map V.str) (fun j σ' H' => ∃ v7, σ' = [some (.ref p), some (.ref d), some (.ref l), some (.ref U), some (.str (bothD t ln).shown), some (.int (0 + (i : Int))), some (.ref q), v7] ∧ Ext Ps H1 H' ∧ H' q = some (.dK (kvsOf vt)) ∧ H' so = some (.lst ((vt.map (·.1)).map V.str)) ∧
      ∀ k e, vt[k]? = some e → H' e.2.1 = some (.lst ((e.2.2 ++ if k < j then [e.1 ++ ("1" : Str)] else []).map V.str)))
      ⟨_, rfl, E6, sS _ _ hq5, hso1, fun k e he => ?_⟩ (fun j σ' H' _ ⟨_, _, _, _, h, _⟩ => .inl (.inl h)) ?_ ?_
    · rw [if_neg (Nat.not_lt_zero _), List.append_nil]
      exact sS _ _ (hvR5 e (List.mem_of_getElem? he))
    · rintro j xv σ' H' hxj ⟨v7, rfl, EJ, hqJ, hsoJ, hrows⟩
      rw [List.getElem?_map, List.getElem?_map] at hxj
      cases hej : vt[j]? with
      | none => rw [hej] at hxj; cases hxj
      | some e =>
      rw [hej] at hxj
      cases hxj
      have hev : e ∈ vt := List.mem_of_getElem? hej
      have hcur := hrows j e hej
      rw [if_neg (Nat.lt_irrefl _), List.append_nil] at hcur
      obtain ⟨c1, c2, c3⟩ := X.elem ok ol hev
      have l8 : e.1.length ≤ 8 := c1.2.1
      refine ⟨_, rfl, _, rfl, q, .ref e.2.1, rfl, .inl ⟨_, Sum.inr e.1, .inl hqJ, rfl, (valV_row hev (X.nd ok)).symm⟩, .inl ⟨rfl, _, .inl (.inl hcur)⟩, _, rfl, _, _, rfl, rfl, by show e.1.length + 1 ≤ sizeLine; rw [sizeLine_eq]; omega, e.2.1, _, _, rfl, rfl, hcur, by rw [List.length_map, sizeLine_eq]; omega, ?_⟩
      have qe : q ≠ e.2.1 := fun z => by rw [← z, hqJ] at hcur; cases hcur
      refine ⟨_, rfl, EJ.put (hfr1 e hev) (notPs b1.tabs (hfr1 e hev)), by rw [upd_ne qe]; exact hqJ, by rw [upd_ne (Ne.symm (soRow e hev))]; exact hsoJ, fun k e' he' => ?_⟩
      by_cases kj : k = j
      · rw [kj, hej] at he'
        cases he'
        rw [kj, upd_same, if_pos (Nat.lt_succ_self j), List.map_append]
        rfl
      · have ne : e'.2.1 ≠ e.2.1 := fun z => kj (by
          obtain ⟨lk, ek⟩ := List.getElem?_eq_some_iff.mp he'
          obtain ⟨lj, ej⟩ := List.getElem?_eq_some_iff.mp hej
          have l1 : k < (vt.map (·.2.1)).length := by rw [List.length_map]; exact lk
          have l2 : j < (vt.map (·.2.1)).length := by rw [List.length_map]; exact lj
          refine (List.getElem_inj (h₀ := l1) (h₁ := l2) hnd).mp ?_
          rw [List.getElem_map, List.getElem_map, ek, ej, z])
        rw [upd_ne ne]
        have := hrows k e' he'
        by_cases lt : k < j
        · rw [if_pos lt] at this
          rw [if_pos (by omega)]
          exact this
        · rw [if_neg lt] at this
          rw [if_neg (by omega)]
          exact this
    · rintro σ' H7 ⟨v7, rfl, E7, hq7, hso7, hrows⟩
      have b7 := b1.ext E7
      have lv : ((vt.map (·.1)).map V.str).length = vt.length := by rw [List.length_map, List.length_map]
      rw [lv] at hrows
      have rows7 : ∀ e ∈ vt, H7 e.2.1 = some (.lst ((e.2.2 ++ [e.1 ++ ("1" : Str)]).map V.str)) := fun e he => by
        obtain ⟨k, hk, ek⟩ := List.mem_iff_getElem.mp he
        have := hrows k e (by rw [List.getElem?_eq_getElem hk, ek])
        rw [if_pos hk] at this
        exact this
      -- compared
      refine ⟨q, _, hq7, trivial, fun od => ?_⟩
      have lk : ∀ {b : Addr} {o : HO}, H7 b = some o → b ≠ q → upd H7 q (.frz od (.dK (kvsOf vt))) b = some o := fun e ne => by rw [upd_ne ne]; exact e
      have f8 : upd H7 q (.frz od (.dK (kvsOf vt))) q = some (.frz od (.dK (kvsOf vt))) := upd_same
      have Uq : U ≠ q := fun z => by rw [← z, hU] at hq1; cases hq1
      have U8 := lk b7.U Uq
      have Ru8 : RowsAt (upd H7 q (.frz od (.dK (kvsOf vt)))) du := fun r hr => lk (b7.Ru r hr) fun z => by
        have := b7.Ru r hr
        rw [z, hq7] at this
        cases this
      have rows8 : ∀ e ∈ vt, upd H7 q (.frz od (.dK (kvsOf vt))) e.2.1 = some (.lst ((e.2.2 ++ [e.1 ++ ("1" : Str)]).map V.str)) := fun e he => lk (rows7 e he) fun z => by
        have := rows7 e he
        rw [z, hq7] at this
        cases this
      obtain ⟨H8, eH8⟩ : ∃ H8, H8 = upd H7 q (.frz od (.dK (kvsOf vt))) := ⟨_, rfl⟩
      rw [← eH8] at f8 U8 Ru8 rows8 ⊢
      refine ⟨_, rfl, q, od, rfl, .inl ⟨kvsOf vt, f8, fun D hD => ?_⟩⟩
      have Dq : D ≠ q := fun z => by rw [z, f8] at hD; cases hD
      refine lc_it walk_keys (fun k H' => Same H8 H' ∧ H' D = some (.lst [])) ⟨snew hD, upd_same⟩ (fun k H' _ h => h.1 _ _ f8) ?_ ?_
      · rintro k x H' H'' hk ⟨sm, hD'⟩ ⟨rfl, kk, vv, hkv, rfl⟩
        obtain ⟨e, hek, hev, rfl, rfl⟩ := kvsOf_at hkv
        obtain ⟨c1, c2, c3⟩ := X.elem ok ol hev
        obtain ⟨v, hv, ev⟩ := X.node hev
        obtain ⟨e', he', ee, ew⟩ := W.row hv
        have l8 : e.1.length ≤ 8 := c1.2.1
        have gd : e'.2.2 = e.2.2 := by rw [ew, hvw e hev, ev]
        have h1 := sm _ _ (rows8 e hev)
        have h2 := sm _ _ (Ru8 e' he')
        rw [gd] at h2
        refine ⟨rfl, _, rfl, _, rfl, q, .ref e.2.1, rfl, .inl ⟨_, Sum.inr e.1, .inr ⟨od, sm _ _ f8⟩, rfl, (valV_row hev (X.nd ok)).symm⟩, ?_⟩
        refine ⟨_, rfl, _, rfl, U, .ref e'.2.1, rfl, .inl ⟨_, Sum.inr e.1, .inl (sm _ _ U8), rfl, ?_⟩, ?_⟩
        · rw [← ev, ← ee]
          exact (valV_row he' (W.nd ok)).symm
        refine ⟨_, rfl, _, _, rfl, rfl, by show e.1.length + 1 ≤ sizeLine; rw [sizeLine_eq]; omega, by show 1 ≤ sizeLine; decide, fun a1 ha1 => ?_⟩
        have t1 : Same H'' (upd H'' a1 (.lst [.str (e.1 ++ ("1" : Str))])) := snew ha1
        have g1 : upd H'' a1 (.lst [.str (e.1 ++ ("1" : Str))]) a1 = some (.lst [.str (e.1 ++ ("1" : Str))]) := upd_same
        generalize upd H'' a1 (.lst [.str (e.1 ++ ("1" : Str))]) = G1 at t1 g1
        refine ⟨e'.2.1, a1, _, _, rfl, rfl, t1 _ _ h2, g1, by rw [List.length_map, sizeLine_eq]; show _ + 1 ≤ _; omega, fun a2 ha2 => ?_⟩
        have t2 : Same G1 (upd G1 a2 (.lst (e.2.2.map V.str ++ [.str (e.1 ++ ("1" : Str))]))) := snew ha2
        have g2 : upd G1 a2 (.lst (e.2.2.map V.str ++ [.str (e.1 ++ ("1" : Str))])) a2 = some (.lst ((e.2.2 ++ [e.1 ++ ("1" : Str)]).map V.str)) := by rw [upd_same, List.map_append]; rfl
        generalize upd G1 a2 (.lst (e.2.2.map V.str ++ [.str (e.1 ++ ("1" : Str))])) = G2 at t2 g2
        have sh := shaped_strs (xs := e.2.2 ++ [e.1 ++ ("1" : Str)]) fun x hx => by
          rcases List.mem_append.mp hx with z | z
          · exact (c2 x z).asc
          · rw [List.mem_singleton.mp z]
            exact asc_one c1
        refine ⟨_, _, .lst (.inl (.inl (t2 _ _ (t1 _ _ h1)))) (dpAll_strs _), .lst (.inl (.inl g2)) (dpAll_strs _), sh, sh, false, ?_, iteF ⟨sm.trans (t1.trans t2), t2 _ _ (t1 _ _ hD')⟩⟩
        show V.bl (!PyData.eqvAll ((e.2.2 ++ [e.1 ++ ("1" : Str)]).map PyData.str) ((e.2.2 ++ [e.1 ++ ("1" : Str)]).map PyData.str)) = V.bl false
        rw [eqvAll_strs]
        rfl
      · rintro H9 ⟨sm, hD9⟩
        refine ⟨sm _ _ f8, by show 0 ≤ sizeLine; exact Nat.zero_le _, fun z hz => ?_⟩
        have zD : D ≠ z := fun w => by
          rw [← w, upd_ne Dq, hD9] at hz
          cases hz
        refine ⟨.list [], .list [], .lst (.inl (.inl ?_)) .nil, .lst (.inl (.inl upd_same)) .nil, rfl, rfl, false, rfl, iteF ?_⟩
        · rw [upd_ne zD, upd_ne Dq]
          exact hD9
        have zq : q ≠ z := fun w => by rw [← w, upd_same] at hz; cases hz
        have hz9 : H9 z = none := by rw [upd_ne (Ne.symm zq)] at hz; exact hz
        have e9 : Ext Ps H1 (upd H9 q (.dK (kvsOf vt))) := by
          refine E7.trans (Ext.unlock (o := od) hq7 (fun _ z => by cases z) ?_)
          rw [← eH8]
          exact Ext.same sm
        have e10 : Ext Ps H1 (upd (upd H9 q (.dK (kvsOf vt))) z (.lst [])) := e9.trans (.new hz)
        have hq10 : upd (upd H9 q (.dK (kvsOf vt))) z (.lst []) q = some (.dK (kvsOf vt)) := by rw [upd_ne zq]; exact upd_same
        refine ⟨_, rfl, .inr (.inr (.inl ⟨rfl, .inl ⟨_, hq10⟩⟩)), q, _, rfl, rfl, hq10, ?_⟩
        exact ⟨_, _, _, rfl, e10.put hq1 (notPs b1.tabs hq1)⟩
  · rintro σ' H3 ⟨v5, v6, v7, rfl, E3⟩
    have b3 := b1.ext E3
    have hP3 := hP1.ext E3 b1.tabs
    refine ⟨_, rfl, _, rfl, d, kvsOf t, t.map (·.1), rfl, .inl b3.d, nmEq, by rw [List.length_map]; omega, fun ys so pm hso hs0 => ?_⟩
    have sS : Same H3 (upd H3 so (.lst (ys.map V.str))) := snew hs0
    have hso1 : upd H3 so (.lst (ys.map V.str)) so = some (.lst (ys.map V.str)) := upd_same
    generalize upd H3 so (.lst (ys.map V.str)) = H4 at sS hso1
    have b4 := b3.ext (Ext.same sS)
    have hP4 := hP3.ext (Ext.same sS) b3.tabs
    have yl : ys.length = t.length := by
      have := pm.length_eq
      rw [List.length_map] at this
      exact this
    obtain ⟨mm, emm, mm4⟩ : ∃ mm : Nat, (if ((kvsOf t).length : Int) < 4 then ((kvsOf t).length : Int) else 4) = mm ∧ mm ≤ ys.length ∧ mm ≤ 4 := by
      refine ⟨(if ((kvsOf t).length : Int) < 4 then ((kvsOf t).length : Int) else 4).toNat, (Int.toNat_of_nonneg (by split <;> omega)).symm, ?_, ?_⟩
      · rw [kvsOf_len]
        split <;> omega
      · split <;> omega
    refine ⟨_, rfl, d, _, rfl, b4.d, _, _, rfl, ?_⟩
    rw [emm]
    refine ⟨p, so, mm, n, ys, rfl, .inl (.inl hso1), hP4, by omega, by omega, by omega, fun H5 QS qs rest k5 hQS0 hQS hP5 pm5 le5 => ?_⟩
    have EB : Ext Ps (wo p H) H4 := (Ext.same (wo_same.trans s1)).trans (E3.trans (Ext.same sS))
    have E5 : Ext Ps (wo p H) H5 := EB.kp' wo_p hP4 k5
    have tabsB : Tabs Ps H5 := fun q hq => by
      obtain ⟨ps, e1, e2⟩ := b4.tabs q hq
      exact ⟨ps, k5 _ _ (hP4.ne' e1 fun _ _ _ z => by cases z) e1, e2⟩
    have sys5 : SysOk H5 := by
      obtain ⟨o, φ, h⟩ := b4.sys
      exact ⟨o, φ, k5 _ _ (hP4.ne' h fun _ _ _ z => by cases z) h⟩
    have b5 : Bk Ps H5 d l t ln U du := ⟨tabsB, sys5, k5 _ _ dp b4.d, fun r hr => k5 _ _ (hP4.ne' (b4.R r hr) names_ne_pot) (b4.R r hr), k5 _ _ lp b4.l, k5 _ _ (hP4.ne' b4.U fun _ _ _ z => by cases z) b4.U, fun r hr => k5 _ _ (hP4.ne' (b4.Ru r hr) names_ne_pot) (b4.Ru r hr)⟩
    refine ⟨QS, rfl, ⟨_, .inl (.inl hQS)⟩, ?_⟩
    refine for_list (K := K) (xs := qs.map V.str) (fun j σ' H' => ∃ v5 v6 v7, σ' = [some (.ref p), some (.ref d), some (.ref l), some (.ref U), some (.str (bothD t ln).shown), v5, v6, v7] ∧ Ext Ps H5 H') ⟨_, _, _, rfl, .refl⟩ (fun j σ' H' _ ⟨_, _, _, _, x⟩ => .inl (.inl (x.get b5.tabs hQS fun _ z => by cases z))) ?_ ?_
    · rintro j xv σ' H6 hxj ⟨v5, v6, v7, rfl, E6⟩
      rw [List.getElem?_map] at hxj
      cases hqj : qs[j]? with
      | none => rw [hqj] at hxj; cases hxj
      | some y =>
      rw [hqj] at hxj
      cases hxj
      have hyt : y ∈ t.map (·.1) := pm.subset (pm5.subset (List.mem_append_left _ (List.mem_of_getElem? hqj)))
      obtain ⟨v, hv, ev⟩ := List.mem_map.mp hyt
      have ev : v.1 = y := ev
      subst ev
      obtain ⟨e', he', ee, ew⟩ := W.row hv
      have sV := sm_list (viewN_names ok ol hv) (by have := viewF_len v.1 (dirN t v.1) ln; unfold viewN; omega)
      have b6 := b5.ext E6
      have dueAt : ∀ {G : Hp}, Bk Ps G d l t ln U du → DGet G U (.str v.1) (some (.ref e'.2.1)) ∧ G e'.2.1 = some (.lst ((viewN t v.1 ln).map V.str)) := fun {G} b => ⟨.inl ⟨_, Sum.inr v.1, .inl b.U, rfl, by rw [← ee]; exact (valV_row he' (W.nd ok)).symm⟩, by rw [← ew]; exact b.Ru e' he'⟩
      refine ⟨_, rfl, _, rfl, _, rfl, d, l, t, ln, v, rfl, b6.d, b6.R, ok, b6.l, ol, hv, b6.tabs, fun H7 q e7 hq0 hq => ?_⟩
      have b7 := b6.ext e7
      have hq5 : H5 q = none := E6.none hq0 b5.tabs
      refine ⟨_, rfl, q, lnD (viewN t v.1 ln), rfl, b7.sys, dat_line hq, sV.sh, Nat.le_trans sV.dp (by decide), sV.fits (by decide), ?_⟩
      refine ⟨_, rfl, _, rfl, U, _, rfl, (dueAt b7).1, e'.2.1, lnD (viewN t v.1 ln), rfl, b7.sys, dat_line (dueAt b7).2, sV.sh, Nat.le_trans sV.dp (by decide), sV.fits (by decide), rfl, _, rfl, iteNS rfl ?_⟩
      refine keptOk _ b7 (fun H8 e8 => iteF ?_) _ rfl rfl rfl
      have b8 := b7.ext e8
      have hq8 := e8.get b7.tabs hq fun _ z => by cases z
      refine ⟨_, rfl, .inl ⟨rfl, _, .inl (.inl hq8)⟩, q, _, _, rfl, rfl, hq8, by rw [List.length_map, sizeLine_eq]; have := viewF_len v.1 (dirN t v.1) ln; unfold viewN; omega, ?_⟩
      have E9 : Ext Ps H5 (upd H8 q (.lst ((viewN t v.1 ln).map V.str ++ [.str "more"]))) := (E6.trans (e7.trans e8)).put hq5 (notPs b5.tabs hq5)
      generalize upd H8 q (.lst ((viewN t v.1 ln).map V.str ++ [.str "more"])) = H9 at E9
      have b9 := b5.ext E9
      refine ⟨_, rfl, _, rfl, _, rfl, d, l, t, ln, v, rfl, b9.d, b9.R, ok, b9.l, ol, hv, b9.tabs, fun H10 q10 e10 hq100 hq10 => ?_⟩
      have b10 := b9.ext e10
      have sh := shaped_strs (xs := viewN t v.1 ln) fun x hx => (viewN_names ok ol hv x hx).asc
      refine ⟨_, rfl, _, rfl, U, _, rfl, (dueAt b10).1, _, _, .lst (.inl (.inl hq10)) (dpAll_strs _), .lst (.inl (.inl (dueAt b10).2)) (dpAll_strs _), sh, sh, false, ?_, iteF ⟨_, _, _, rfl, E9.trans e10⟩⟩
      show V.bl (!PyData.eqvAll ((viewN t v.1 ln).map PyData.str) ((viewN t v.1 ln).map PyData.str)) = V.bl false
      rw [eqvAll_strs]
      rfl
    · rintro σ' H6 ⟨v5, v6, v7, rfl, E6⟩
      exact hQ H6 (E5.trans E6) ((hP5.ext E6 b5.tabs).mono (by omega))
end
end A8
set_option Elab.async false
set_option linter.all false
set_option maxRecDepth 100000
set_option maxHeartbeats 4000000
namespace A8
open PySem PySem.Spec PyProof.Rows L2 AL
open GxR (TabB TabG Tabbed)
abbrev sLaw : Stmt := top 34
abbrev nLaw : List Str := ["script", "k", "pot", "nodes", "entries", "tree", "line"]
theorem scLaw : FnScope nLaw ["script"] (defScope sLaw) := ⟨rfl, rfl, rfl, by decide +kernel, rfl, by decide +kernel, by decide +kernel⟩
def spLaw (K : PySem.W.Frag) (Ps : List Addr) : Sp := fun vs H Q _ => ∃ (a : Addr) (ns : List Int), vs = [.ref a] ∧ ns.length ≤ 63 ∧ SqL K H a (ns.map V.int) ∧ Tabs Ps H ∧ SysOk H ∧ ∀ H', Q (.bl true) H'
/-- what holds all the time -/
structure Jk (K : PySem.W.Frag) (Ps : List Addr) (a : Addr) (ns : List Int) (H : Hp) : Prop where
  tabs : Tabs Ps H
  sys : SysOk H
  scr : SqL K H a (ns.map V.int)
section
variable {K : PySem.W.Frag} {Ps : List Addr} {a p : Addr} {ns : List Int} {HB H H' : Hp} {n : Nat}
theorem Jk.ext (j : Jk K Ps a ns H) (e : Ext Ps H H') : Jk K Ps a ns H' := by
  refine ⟨e.tabs j.tabs, e.sys j.tabs j.sys, ?_⟩
  rcases j.scr with h | h
  · exact .inl (e.rd j.tabs h fun _ z => by cases z)
  · exact .inr h
end
/-- the tree and the line, made behind HB -/
structure Tl (Ps : List Addr) (HB H : Hp) (d l : Addr) (t : List Row) (ln : List Str) : Prop where
  e : Ext Ps HB H
  hd : H d = some (.dK (kvsOf t))
  hR : RowsAt H t
  hl : H l = some (.lst (ln.map V.str))
  ol : OkLine t ln
  ne : ∀ r ∈ t, r.2.1 ≠ l
section
variable {Ps : List Addr} {HB H H' : Hp} {d l q : Addr} {t : List Row} {ln ln' : List Str} {o : HO}
theorem Tl.ext (s : Tl Ps HB H d l t ln) (tb : Tabs Ps HB) (e : Ext Ps H H') : Tl Ps HB H' d l t ln :=
  ⟨s.e.trans e, e.get (s.e.tabs tb) s.hd (fun _ z => HO.noConfusion z), e.rows (s.e.tabs tb) s.hR, e.get (s.e.tabs tb) s.hl (fun _ z => HO.noConfusion z), s.ol, s.ne⟩
theorem Tl.put (s : Tl Ps HB H' d l t ln) (tb : Tabs Ps HB) (s0 : Tl Ps HB H d l t ln) (h : H q = none) : Tl Ps HB (upd H' q o) d l t ln := by
  have hb : HB q = none := s0.e.none h tb
  refine ⟨s.e.put hb (notPs tb hb), ?_, fun r hr => ?_, ?_, s.ol, s.ne⟩
  · rw [upd_ne (ne_of_none s0.hd h)]
    exact s.hd
  · rw [upd_ne (ne_of_none (s0.hR r hr) h)]
    exact s.hR r hr
  · rw [upd_ne (ne_of_none s0.hl h)]
    exact s.hl
theorem Tl.line (s : Tl Ps HB H d l t ln) (tb : Tabs Ps HB) (h : HB l = none) (ol : OkLine t ln') : Tl Ps HB (upd H l (.lst (ln'.map V.str))) d l t ln' := by
  refine ⟨s.e.put h (notPs tb h), ?_, fun r hr => ?_, upd_same, ol, s.ne⟩
  · rw [upd_ne fun z => ?_]
    · exact s.hd
    · have := s.hl
      rw [← z, s.hd] at this
      cases this
  · rw [upd_ne (s.ne r hr)]
    exact s.hR r hr
end
theorem okTree_one (el : Addr) : OkTree [("p", el, [])] where
  n1 := Nat.le_refl 1
  n40 := by show 1 ≤ 40; decide
  names := fun r hr => by
    rw [List.mem_singleton.mp hr]
    show NameOk "p"
    exact nameB_ok (by decide +kernel)
  nodup := by simp
  nbs := fun r hr y hy => by
    rw [List.mem_singleton.mp hr] at hy
    exact absurd hy List.not_mem_nil
  self := fun r hr h => by
    rw [List.mem_singleton.mp hr] at h
    exact absurd h List.not_mem_nil
  asc := fun r hr => by
    rw [List.mem_singleton.mp hr]
    exact ⟨rfl, .nil⟩
  sym := fun r hr s hs h => by
    rw [List.mem_singleton.mp hr] at h
    exact absurd h List.not_mem_nil
  ends := rfl
  conn := fun S ⟨r, hr, h⟩ _ s hs => by
    rw [List.mem_singleton.mp hs]
    rw [List.mem_singleton.mp hr] at h
    exact h

theorem nmEqK {t : List Row} : (kvsOf t).map (·.1) = (t.map (·.1)).map Sum.inr := by unfold kvsOf; rw [List.map_map, List.map_map]; rfl
theorem ixN_0 {n : Nat} (h : 0 < n) : ixN n 0 = some 0 := by
  unfold ixN
  rw [if_pos (show (0 : Int) ≤ 0 by decide)]
  exact if_pos (by omega)
theorem okTree_two (x y : Addr) : OkTree [("a", x, ["b"]), ("b", y, ["a"])] where
  n1 := by show 1 ≤ 2; decide
  n40 := by show 2 ≤ 40; decide
  names := fun r hr => by
    rcases List.mem_cons.mp hr with z | z
    · rw [z]
      exact nameB_ok (x := "a") (by decide +kernel)
    · rw [List.mem_singleton.mp z]
      exact nameB_ok (x := "b") (by decide +kernel)
  nodup := by show (["a", "b"] : List Str).Nodup; decide +kernel
  nbs := fun r hr z hz => by
    rcases List.mem_cons.mp hr with e | e
    · rw [e] at hz
      exact ⟨_, List.mem_cons_of_mem _ List.mem_cons_self, (List.mem_singleton.mp hz).symm⟩
    · rw [List.mem_singleton.mp e] at hz
      exact ⟨_, List.mem_cons_self, (List.mem_singleton.mp hz).symm⟩
  self := fun r hr => by
    rcases List.mem_cons.mp hr with e | e
    · rw [e]
      show ¬ ("a" : Str) ∈ (["b"] : List Str)
      decide +kernel
    · rw [List.mem_singleton.mp e]
      show ¬ ("b" : Str) ∈ (["a"] : List Str)
      decide +kernel
  asc := fun r hr => by
    rcases List.mem_cons.mp hr with e | e
    · rw [e]
      exact ⟨rfl, by simp⟩
    · rw [List.mem_singleton.mp e]
      exact ⟨rfl, by simp⟩
  sym := fun r hr s hs h => by
    rcases List.mem_cons.mp hr with e | e <;> rcases List.mem_cons.mp hs with e' | e'
    · rw [e, e'] at h
      revert h
      show ("a" : Str) ∈ (["b"] : List Str) → _
      intro h
      exact absurd h (by decide +kernel)
    · rw [e, List.mem_singleton.mp e']
      exact List.mem_cons_self
    · rw [e', List.mem_singleton.mp e]
      exact List.mem_cons_self
    · rw [List.mem_singleton.mp e, List.mem_singleton.mp e'] at h
      exact absurd h (by show ¬ ("b" : Str) ∈ (["a"] : List Str); decide +kernel)
  ends := rfl
  conn := fun S ⟨r, hr, h⟩ cl s hs => by
    have ab : S "a" → S "b" := fun q => cl _ List.mem_cons_self q _ List.mem_cons_self
    have ba : S "b" → S "a" := fun q => cl _ (List.mem_cons_of_mem _ List.mem_cons_self) q _ List.mem_cons_self
    have sa : S "a" := by
      rcases List.mem_cons.mp hr with e | e
      · rw [e] at h
        exact h
      · rw [List.mem_singleton.mp e] at h
        exact ba h
    rcases List.mem_cons.mp hs with e | e
    · rw [e]
      exact sa
    · rw [List.mem_singleton.mp e]
      exact ab sa
/-- the view of the line of two steps in one node -/
theorem view_one (el : Addr) : viewN [(("p" : Str), el, ([] : List Str))] "p" [("p" : Str), "p"] = [("p" : Str)] := by
  have ok := okTree_one el
  have e : dirN [(("p" : Str), el, ([] : List Str))] "p" "p" = "p" := dirN_eq (r := ("p", el, [])) ok List.mem_cons_self (.inl ⟨rfl, rfl⟩)
  show seen1 "p" (dirN [(("p" : Str), el, ([] : List Str))] "p") "p" "p" ++ [] = [("p" : Str)]
  unfold seen1
  rw [e, if_pos (.inl rfl)]
  rfl
theorem view_two (x y : Addr) : viewN [(("a" : Str), x, (["b"] : List Str)), ("b", y, ["a"])] "b" [("a" : Str), "a"] = [] := by
  have ok := okTree_two x y
  obtain ⟨ps, h⟩ := exists_steps ok (r := ("a", x, ["b"])) List.mem_cons_self
  obtain ⟨q, hq, eq⟩ := List.mem_map.mp (h.all ("b", y, ["a"]) (List.mem_cons_of_mem _ List.mem_cons_self))
  have hq' : (("b" : Str), q.2) ∈ ps := by rw [← show q.1 = "b" from eq]; exact hq
  have dr := h.dr ok hq'
  have e := dirN_eq (r := ("a", x, ["b"])) ok List.mem_cons_self dr
  have ne : q.2 ≠ "b" := fun z => by
    rcases dr with ⟨w, _⟩ | ⟨_, ⟨s, hs, es, hy⟩, _⟩
    · exact absurd (show ("b" : Str) = "a" from w) (by decide +kernel)
    · rw [z, ← show s.1 = "b" from es] at hy
      exact ok.self s hs hy
  show seen1 "b" (dirN [(("a" : Str), x, (["b"] : List Str)), ("b", y, ["a"])] "b") "a" "a" ++ [] = []
  unfold seen1
  rw [show dirN [(("a" : Str), x, (["b"] : List Str)), ("b", y, ["a"])] "b" "a" = q.2 from e, if_neg (fun z => z.elim ne fun w => w rfl)]
  rfl
theorem Ext.wo {Ps : List Addr} {HB H : Hp} {p : Addr} {n : Nat} (e : Ext Ps HB H) (hb : HB p = Option.none) (hp : PotAt H p n) : Ext Ps HB (wo p H) where
  kp := fun b o h z => by rw [wo_ne (ne_of_none h hb)]; exact e.kp b o h z
  tb := fun q hq h => by
    obtain ⟨ps, e1, e2⟩ := e.tb q hq h
    exact ⟨ps, by rw [wo_ne (hp.ne' e1 fun _ _ _ z => by cases z)]; exact e1, e2⟩
theorem Tl.wo {Ps : List Addr} {HB H H' : Hp} {p d l : Addr} {t : List Row} {ln : List Str} {n : Nat} (s : Tl Ps HB H d l t ln) (tb : Tabs Ps HB) (hb : HB p = Option.none) (hp : PotAt H p n) (e : Ext Ps (wo p H) H') : Tl Ps HB H' d l t ln := by
  have w := s.e.wo hb hp
  have tw := w.tabs tb
  refine ⟨w.trans e, e.get tw ?_ (fun _ z => HO.noConfusion z), fun r hr => e.get tw ?_ (fun _ z => HO.noConfusion z), e.get tw ?_ (fun _ z => HO.noConfusion z), s.ol, s.ne⟩
  · rw [wo_ne (hp.ne' s.hd fun _ _ _ z => HO.noConfusion z)]
    exact s.hd
  · rw [wo_ne (hp.ne' (s.hR r hr) names_ne_pot)]
    exact s.hR r hr
  · rw [wo_ne (hp.ne' s.hl names_ne_pot)]
    exact s.hl
section
variable {P : Program} {w : World} {K : PySem.W.Frag} {mg : Str → Option Value} {base : Heap} {f c p1 fr : Addr} {fd fdr : FuncData} {Ps : List Addr}
theorem ok_law (F : FunD K "law" "law" (defArgs sLaw) (defBody sLaw) (defScope sLaw) [] [] f fd)
    (cP : Cal P w K mg base 1 "_law_pot" (spPot K)) (cA : Cal P w K mg base 1 "_law_take" spTake) (cZ : Cal P w K mg base 2 "_law_sizes" spSizes) (cT : Cal P w K mg base 4 "_law_tree" spTree) (cL : Cal P w K mg base 4 "_law_line" spLine)
    (fR : FnG P w K mg base CX0 10 fr fdr ["pot", "tree", "line"] (spRight Ps)) (hmR : mg "_law_right" = some (.ref fr)) (kR : PySem.W.keepIn K (.ref fr) = true) (bR : Binds K fdr ["pot", "tree", "line"] [])
    (cW : Cal P w K mg base 9 "view" (spView Ps)) (cX : Cal P w K mg base 9 "views" (spViews Ps))
    (gR : mg "range" = none) (gL : mg "len" = none) (gM : mg "max" = none) (gN : mg "min" = none) (gS : mg "sorted" = none) : FnG P w K mg base CX0 11 f fd ["script"] (spLaw K Ps) := by
  refine funG_ok F scLaw (fun vs H Q E h => ?_) ?_
  · obtain ⟨a, ns, rfl, _⟩ := h
    rfl
  intro cdv A outer s H vs Q E hgd hr h
  refine ⟨_, PSs.nox (pss_cons (ps_for PassesOwn.never rfl (pi_range1 rfl gR (pa_cons (pe_callB (call_max2 rfl) rfl gM (by decide +kernel) (pa_cons pe_int (pa_cons (pe_callB (call_min2 rfl) rfl gN (by decide +kernel) (pa_cons pe_int (pa_cons (pe_callB call_len_seq rfl gL boot_len (pa_cons (pv 0) pa_nil)) pa_nil))) pa_nil))) pa_nil)) (pg_name (i := 1) scLaw.nd rfl (Or.inl rfl))
      (pss_cons (ps_set (i := 2) scLaw.nd rfl (Or.inl rfl) (pe_c cP hr (by decide) rfl (pa_cons (pv 0) (pa_cons (pv 1) pa_nil))))
      (pss_cons (ps_asg (pe_c cZ hr (by decide) rfl (pa_cons (pv 2) (pa_cons (pv 1) pa_nil))) (pg_tup rfl (pgs_cons (pg_name (i := 3) scLaw.nd rfl (Or.inl rfl)) (pgs_cons (pg_name (i := 4) scLaw.nd rfl (Or.inl rfl)) pgs_nil))))
      (pss_cons (ps_set (i := 5) scLaw.nd rfl (Or.inl rfl) (pe_c cT hr (by decide) rfl (pa_cons (pv 2) (pa_cons (pv 3) pa_nil))))
      (pss_cons (ps_set (i := 6) scLaw.nd rfl (Or.inl rfl) (pe_c cL hr (by decide) rfl (pa_cons (pv 2) (pa_cons (pv 5) (pa_cons (pv 4) pa_nil)))))
      (pss_cons (ps_if (pt_not (pt_val (pe_callG fR hgd hr rfl hmR kR bR .nil pass0 (pa_cons (pv 2) (pa_cons (pv 5) (pa_cons (pv 6) pa_nil)))))) pss_never pss_nil)
      (pss_cons (ps_expr (pe_bm0 PySem.F.plainAttrs_list PySem.F.slot_list_reverse PySem.F.type_list_reverse mt_reverse (pv 6)))
      (pss_cons (ps_asg (pe_ix ix_list (pe_callB (call_sortedD rfl) rfl gS (by decide +kernel) (pa_cons (pv 5) pa_nil)) (pe_c cA hr (by decide) rfl (pa_cons (pv 2) (pa_cons (pe_callB call_lenD rfl gL boot_len (pa_cons (pv 5) pa_nil)) pa_nil))) (fun _ _ => rfl)) (pg_sub (pv 6) pe_int set_list))
      (pss_one (ps_if (pt_not (pt_val (pe_callG fR hgd hr rfl hmR kR bR .nil pass0 (pa_cons (pv 2) (pa_cons (pv 5) (pa_cons (pv 6) pa_nil)))))) pss_never pss_nil))))))))))
    (pss_one (ps_ret (pe_and (pe_cmpR (op_eqV hr.units) (pe_c cX hr (by decide) rfl (pa_cons (pe_disp (pps_cons pe_str (pe_lst pa_nil) pps_nil) rfl rfl (by decide) (by decide)) (pa_cons (pe_lst (pa_cons pe_str (pa_cons pe_str pa_nil))) pa_nil))) (pe_disp (pps_cons pe_str (pe_lst (pa_cons pe_str pa_nil)) pps_nil) rfl rfl (by decide) (by decide)) (nomark _))
      (pe_one (pe_cmpR (op_eqD hr.units) (pe_c cW hr (by decide) rfl (pa_cons (pe_disp (pps_cons pe_str (pe_lst (pa_cons pe_str pa_nil)) (pps_cons pe_str (pe_lst (pa_cons pe_str pa_nil)) pps_nil)) rfl rfl (by decide) (by decide)) (pa_cons (pe_lst (pa_cons pe_str (pa_cons pe_str pa_nil))) (pa_cons pe_str pa_nil)))) (pe_lst pa_nil) (nomark _))))))), ?_⟩
  obtain ⟨a, ns, rfl, hl63, hS, hT, hY, hQ⟩ := h
  obtain ⟨j0, ej0, j01, j05⟩ : ∃ j0 : Int, (if (if (((ns.map V.int).length : Int)) < 4 then (((ns.map V.int).length : Int)) else 4) > 1 then (if (((ns.map V.int).length : Int)) < 4 then (((ns.map V.int).length : Int)) else 4) else 1) = j0 ∧ 0 ≤ j0 ∧ j0 ≤ 4 := ⟨_, rfl, by split <;> (try split) <;> omega, by split <;> (try split) <;> omega⟩
  refine ⟨_, rfl, a, _, rfl, .inl hS, _, _, rfl, _, _, rfl, _, rfl, ?_⟩
  rw [ej0]
  refine ⟨by omega, by omega, ?_⟩
  refine for_range (lo := 0) (n := j0.toNat) (fun i σ' H' => ∃ v1 v2 v3 v4 v5 v6, σ' = [some (.ref a), v1, v2, v3, v4, v5, v6] ∧ Jk K Ps a ns H') ⟨_, _, _, _, _, _, rfl, hT, hY, hS⟩ ?_ ?_
  · rintro i σ' HB hi ⟨v1, v2, v3, v4, v5, v6, rfl, jB⟩
    have hi5 : i < 4 := by omega
    refine ⟨_, rfl, _, rfl, a, ns, i, by rw [Int.zero_add]; rfl, jB.scr, by omega, fun p x y hp0 x0 y0 y1 => ?_⟩
    have hP1 : PotAt (upd HB p (.lst [.int x, .int y, .int 0])) p 0 := ⟨x, y, 0, upd_same, x0, y0, y1, by decide, by decide⟩
    have e1 : Ext Ps HB (upd HB p (.lst [.int x, .int y, .int 0])) := .new hp0
    generalize upd HB p (.lst [.int x, .int y, .int 0]) = H1 at hP1 e1
    refine ⟨_, rfl, _, rfl, p, _, 0, rfl, hP1, by omega, fun H2 tq m e k2 htq hP2 m1 m40 e1' e400 => ?_⟩
    have e2 := e1.kp' hp0 hP1 k2
    refine ⟨tq, _, rfl, .inl (.inl htq), rfl, _, _, rfl, _, _, rfl, rfl, ?_⟩
    refine ⟨_, rfl, _, rfl, p, m, _, rfl, hP2, by omega, m1, m40, fun H3 d t k3 hd0 hd hR ok tl hP3 => ?_⟩
    have e3 := e2.kp' hp0 hP2 k3
    refine ⟨_, rfl, _, rfl, _, rfl, p, d, e, _, t, rfl, hd, hR, ok, hP3, by omega, e1', e400, fun H4 l ln k4 hl0 hl ll nodes hP4 => ?_⟩
    have e4 := e3.kp' hp0 hP3 k4
    have dp : d ≠ p := hP3.ne' hd fun _ _ _ z => by cases z
    have hlB : HB l = none := e3.none hl0 jB.tabs
    have T4 : Tl Ps HB H4 d l t ln := ⟨e4, k4 _ _ dp hd, fun r hr => k4 _ _ (hP3.ne' (hR r hr) names_ne_pot) (hR r hr), hl, ⟨by omega, by omega, nodes⟩, fun r hr => ne_of_none (hR r hr) hl0⟩
    have j4 := jB.ext T4.e
    refine ⟨_, rfl, _, rfl, _, rfl, p, d, l, t, ln, _, rfl, T4.hd, T4.hR, ok, T4.hl, T4.ol, hP4, by omega, j4.tabs, j4.sys, fun H5 e5 hP5 => ⟨true, rfl, iteF ?_⟩⟩
    have T5 := T4.wo jB.tabs hp0 hP4 e5
    have lp : l ≠ p := hP5.ne' T5.hl names_ne_pot
    have n1 := T5.ol.n1
    have n400 := T5.ol.n400
    -- the line is changed
    refine ⟨_, rfl, .inl ⟨rfl, _, .inl (.inl T5.hl)⟩, l, _, rfl, rfl, T5.hl, ?_⟩
    rw [← List.map_reverse]
    have T6 := T5.line jB.tabs hlB (ln' := ln.reverse) ⟨by rw [List.length_reverse]; exact n1, by rw [List.length_reverse]; exact n400, fun y hy => T5.ol.nodes y (List.mem_reverse.mp hy)⟩
    have hP6 := hP5.upd (o := .lst (ln.reverse.map V.str)) (Ne.symm lp)
    generalize upd H5 l (.lst (ln.reverse.map V.str)) = H6 at T6 hP6
    refine ⟨_, rfl, d, kvsOf t, t.map (·.1), rfl, .inl T6.hd, nmEqK, by rw [List.length_map]; have := ok.n40; omega, fun ys so pm hso hs0 => ?_⟩
    have sS : Same H6 (upd H6 so (.lst (ys.map V.str))) := snew hs0
    have hso1 : upd H6 so (.lst (ys.map V.str)) so = some (.lst (ys.map V.str)) := upd_same
    have T7 := T6.ext jB.tabs (Ext.same sS)
    have hP7 := hP6.ext (Ext.same sS) (T6.e.tabs jB.tabs)
    generalize upd H6 so (.lst (ys.map V.str)) = H7 at T7 hP7 hso1
    have yl : ys.length = t.length := by
      have := pm.length_eq
      rw [List.length_map] at this
      exact this
    have sop : so ≠ p := hP7.ne' hso1 names_ne_pot
    have t1 := ok.n1
    have t40 := ok.n40
    refine ⟨_, rfl, _, rfl, d, _, rfl, T7.hd, p, _, _, rfl, hP7, by omega, by rw [kvsOf_len]; omega, by rw [kvsOf_len]; omega, fun H8 j hP8 only8 j0' j1' => ?_⟩
    have hso8 : H8 so = some (.lst (ys.map V.str)) := (only8 so sop).trans hso1
    rw [kvsOf_len] at j1'
    obtain ⟨z, hz, mz⟩ := atI_str (xs := ys) j0' (by omega)
    have k8 : Kp p H7 H8 := Kp.of only8
    have e8 : Ext Ps HB H8 := T7.e.kp' hp0 hP7 k8
    have T8 : Tl Ps HB H8 d l t ln.reverse := ⟨e8, (only8 d dp).trans T7.hd, fun r hr => k8 _ _ (hP7.ne' (T7.hR r hr) names_ne_pot) (T7.hR r hr), (only8 l lp).trans T7.hl, T7.ol, T7.ne⟩
    refine ⟨so, _, _, _, rfl, rfl, .inl (.inl hso8), hz, ?_⟩
    refine ⟨_, rfl, l, _, _, 0, rfl, rfl, T8.hl, ixN_0 (by rw [List.length_map, List.length_reverse]; omega), ?_⟩
    obtain ⟨r, hr, er⟩ := List.mem_map.mp (pm.subset mz)
    have T9 := T8.line jB.tabs hlB (ln' := ln.reverse.set 0 z) ⟨by rw [List.length_set, List.length_reverse]; exact n1, by rw [List.length_set, List.length_reverse]; exact n400, fun y hy => by
      rcases List.mem_or_eq_of_mem_set hy with w | w
      · exact T8.ol.nodes y w
      · rw [w]
        exact ⟨r, hr, er⟩⟩
    have es : (ln.reverse.map V.str).set 0 (.str z) = (ln.reverse.set 0 z).map V.str := by rw [List.map_set]
    rw [es]
    have hP9 := hP8.upd (o := .lst ((ln.reverse.set 0 z).map V.str)) (Ne.symm lp)
    generalize upd H8 l (.lst ((ln.reverse.set 0 z).map V.str)) = H9 at T9 hP9
    have j9 := jB.ext T9.e
    refine ⟨_, rfl, _, rfl, _, rfl, p, d, l, t, _, _, rfl, T9.hd, T9.hR, ok, T9.hl, T9.ol, hP9, by omega, j9.tabs, j9.sys, fun H10 e10 hP10 => ⟨true, rfl, iteF ?_⟩⟩
    have T10 := T9.wo jB.tabs hp0 hP9 e10
    exact ⟨_, _, _, _, _, _, rfl, jB.ext T10.e⟩
  · rintro σ' H' ⟨v1, v2, v3, v4, v5, v6, rfl, j⟩
    have ddPs := fun {G : Hp} {b : Addr} (t : Tabs Ps G) (h : G b = none) => notPs t h
    -- the first
    refine fun dd hdd => ⟨by show 0 ≤ sizeLine; exact Nat.zero_le _, fun el hel => ?_⟩
    have ed : dd ≠ el := fun z => by rw [← z, upd_same] at hel; cases hel
    refine ⟨by rw [upd_ne ed]; exact upd_same, [(Sum.inr "p", .ref el)], rfl, by show 1 ≤ 15; decide, ?_⟩
    have hel' : H' el = none := by rw [upd_ne (Ne.symm ed)] at hel; exact hel
    have n1 := notPs j.tabs hdd
    have e1 : Ext Ps H' (upd (upd (upd H' dd (.dK [])) el (.lst [])) dd (.dK (mergeK [] [(Sum.inr "p", .ref el)]))) := (((Ext.refl.put hdd n1).put hel' (notPs j.tabs hel')).put hdd n1)
    have h1 : upd (upd (upd H' dd (.dK [])) el (.lst [])) dd (.dK (mergeK [] [(Sum.inr "p", .ref el)])) dd = some (.dK (kvsOf [("p", el, [])])) := upd_same
    have h2 : upd (upd (upd H' dd (.dK [])) el (.lst [])) dd (.dK (mergeK [] [(Sum.inr "p", .ref el)])) el = some (.lst []) := by
      rw [upd_ne (Ne.symm ed)]
      exact upd_same
    generalize upd (upd (upd H' dd (.dK [])) el (.lst [])) dd (.dK (mergeK [] [(Sum.inr "p", .ref el)])) = H1 at e1 h1 h2
    refine ⟨by show 2 ≤ sizeLine; decide, fun l hl => ?_⟩
    have e2 : Ext Ps H1 (upd H1 l (.lst [.str "p", .str "p"])) := .new hl
    have h3 : upd H1 l (.lst [.str "p", .str "p"]) l = some (.lst ((["p", "p"] : List Str).map V.str)) := upd_same
    have j1 := j.ext e1
    have h1' := e2.get j1.tabs h1 fun _ z => by cases z
    have h2' := e2.get j1.tabs h2 fun _ z => by cases z
    have j2 := j1.ext e2
    generalize upd H1 l (.lst [.str "p", .str "p"]) = H2 at e2 h3 h1' h2' j2
    refine ⟨dd, l, [("p", el, [])], ["p", "p"], rfl, h1', fun r hr => by rw [List.mem_singleton.mp hr]; exact h2', okTree_one el, h3, ⟨by decide, by decide, fun y hy => ⟨_, List.mem_cons_self, ?_⟩⟩, j2.tabs, fun H3 q vt e3 hq0 hq hvR hpm hso hvw hnd hfr => ?_⟩
    · have : y ∈ (["p", "p"] : List Str) := hy
      simp only [List.mem_cons, List.not_mem_nil, or_false, or_self] at this
      exact this.symm
    obtain ⟨vl, evt⟩ : ∃ vl, vt = [(("p" : Str), vl, [("p" : Str)])] := by
      have ln1 := hpm.length_eq
      match vt, ln1 with
      | [(y, vl, zs)], _ =>
        have ey : y = "p" := List.mem_singleton.mp (hpm.subset (show y ∈ _ from List.mem_cons_self))
        have ez : zs = viewN [("p", el, [])] y ["p", "p"] := hvw _ List.mem_cons_self
        rw [ey, view_one el] at ez
        exact ⟨vl, by rw [ey, ez]⟩
    subst evt
    have hvl := hvR _ List.mem_cons_self
    have j3 := j2.ext e3
    -- beside it
    refine fun d2 hd2 => ⟨by show 1 ≤ sizeLine; decide, fun el2 hel2 => ?_⟩
    have ed2 : d2 ≠ el2 := fun z => by rw [← z, upd_same] at hel2; cases hel2
    refine ⟨by rw [upd_ne ed2]; exact upd_same, [(Sum.inr "p", .ref el2)], rfl, by show 1 ≤ 15; decide, ?_⟩
    have hel2' : H3 el2 = none := by rw [upd_ne (Ne.symm ed2)] at hel2; exact hel2
    have n2 := notPs j3.tabs hd2
    have e4 : Ext Ps H3 (upd (upd (upd H3 d2 (.dK [])) el2 (.lst [.str "p"])) d2 (.dK (mergeK [] [(Sum.inr "p", .ref el2)]))) := (((Ext.refl.put hd2 n2).put hel2' (notPs j3.tabs hel2')).put hd2 n2)
    have g1 : upd (upd (upd H3 d2 (.dK [])) el2 (.lst [.str "p"])) d2 (.dK (mergeK [] [(Sum.inr "p", .ref el2)])) d2 = some (.dK [(Sum.inr "p", .ref el2)]) := upd_same
    have g2 : upd (upd (upd H3 d2 (.dK [])) el2 (.lst [.str "p"])) d2 (.dK (mergeK [] [(Sum.inr "p", .ref el2)])) el2 = some (.lst [.str "p"]) := by
      rw [upd_ne (Ne.symm ed2)]
      exact upd_same
    have g3 := e4.get j3.tabs hq fun _ z => by cases z
    have g4 := e4.get j3.tabs hvl fun _ z => by cases z
    have j4 := j3.ext e4
    generalize upd (upd (upd H3 d2 (.dK [])) el2 (.lst [.str "p"])) d2 (.dK (mergeK [] [(Sum.inr "p", .ref el2)])) = H4 at g1 g2 g3 g4 j4
    refine ⟨2, by decide, .inr ⟨q, d2, _, _, rfl, rfl, g3, g1, rfl, fun pr hpr => ?_⟩, true, rfl, ?_⟩
    · rw [List.mem_singleton.mp hpr]
      exact ⟨.ref el2, rfl, .inr (.inr (.inl ⟨vl, el2, _, _, rfl, rfl, .inl (.inl g4), .inl (.inl g2), .cons (.inl ⟨rfl, rfl⟩) .nil⟩))⟩
    rw [if_pos rfl]
    -- the second
    refine fun d3 hd3 => ⟨by show 1 ≤ sizeLine; decide, fun ea hea => ?_⟩
    have da : d3 ≠ ea := fun z => by rw [← z, upd_same] at hea; cases hea
    refine ⟨by show 1 ≤ sizeLine; decide, fun eb heb => ?_⟩
    have ab : ea ≠ eb := fun z => by rw [← z, upd_same] at heb; cases heb
    have db : d3 ≠ eb := fun z => by rw [← z, upd_ne da, upd_same] at heb; cases heb
    refine ⟨by rw [upd_ne db, upd_ne da]; exact upd_same, [(Sum.inr "a", .ref ea), (Sum.inr "b", .ref eb)], rfl, by show 2 ≤ 15; decide, ?_⟩
    have hea' : H4 ea = none := by rw [upd_ne (Ne.symm da)] at hea; exact hea
    have heb' : H4 eb = none := by rw [upd_ne (Ne.symm ab), upd_ne (Ne.symm db)] at heb; exact heb
    have n3 := notPs j4.tabs hd3
    have e5 : Ext Ps H4 (upd (upd (upd (upd H4 d3 (.dK [])) ea (.lst [.str "b"])) eb (.lst [.str "a"])) d3 (.dK (mergeK [] [(Sum.inr "a", .ref ea), (Sum.inr "b", .ref eb)]))) := ((((Ext.refl.put hd3 n3).put hea' (notPs j4.tabs hea')).put heb' (notPs j4.tabs heb')).put hd3 n3)
    have k1 : upd (upd (upd (upd H4 d3 (.dK [])) ea (.lst [.str "b"])) eb (.lst [.str "a"])) d3 (.dK (mergeK [] [(Sum.inr "a", .ref ea), (Sum.inr "b", .ref eb)])) d3 = some (.dK (kvsOf [("a", ea, ["b"]), ("b", eb, ["a"])])) := upd_same
    have k2 : upd (upd (upd (upd H4 d3 (.dK [])) ea (.lst [.str "b"])) eb (.lst [.str "a"])) d3 (.dK (mergeK [] [(Sum.inr "a", .ref ea), (Sum.inr "b", .ref eb)])) ea = some (.lst [.str "b"]) := by
      rw [upd_ne (Ne.symm da), upd_ne ab]
      exact upd_same
    have k3 : upd (upd (upd (upd H4 d3 (.dK [])) ea (.lst [.str "b"])) eb (.lst [.str "a"])) d3 (.dK (mergeK [] [(Sum.inr "a", .ref ea), (Sum.inr "b", .ref eb)])) eb = some (.lst [.str "a"]) := by
      rw [upd_ne (Ne.symm db)]
      exact upd_same
    generalize upd (upd (upd (upd H4 d3 (.dK [])) ea (.lst [.str "b"])) eb (.lst [.str "a"])) d3 (.dK (mergeK [] [(Sum.inr "a", .ref ea), (Sum.inr "b", .ref eb)])) = H5 at e5 k1 k2 k3
    have j5 := j4.ext e5
    refine ⟨by show 2 ≤ sizeLine; decide, fun l2 hl2 => ?_⟩
    have e6 : Ext Ps H5 (upd H5 l2 (.lst [.str "a", .str "a"])) := .new hl2
    have k4 : upd H5 l2 (.lst [.str "a", .str "a"]) l2 = some (.lst ((["a", "a"] : List Str).map V.str)) := upd_same
    have k1' := e6.get j5.tabs k1 fun _ z => by cases z
    have k2' := e6.get j5.tabs k2 fun _ z => by cases z
    have k3' := e6.get j5.tabs k3 fun _ z => by cases z
    have j6 := j5.ext e6
    generalize upd H5 l2 (.lst [.str "a", .str "a"]) = H6 at k4 k1' k2' k3' j6
    refine ⟨d3, l2, [("a", ea, ["b"]), ("b", eb, ["a"])], ["a", "a"], ("b", eb, ["a"]), rfl, k1', fun r hr => ?_, okTree_two ea eb, k4, ⟨by decide, by decide, fun y hy => ⟨_, List.mem_cons_self, ?_⟩⟩, List.mem_cons_of_mem _ List.mem_cons_self, j6.tabs, fun H7 q7 e7 hq70 hq7 => ?_⟩
    · rcases List.mem_cons.mp hr with z | z
      · rw [z]
        exact k2'
      · rw [List.mem_singleton.mp z]
        exact k3'
    · have : y ∈ (["a", "a"] : List Str) := hy
      simp only [List.mem_cons, List.not_mem_nil, or_false, or_self] at this
      exact this.symm
    rw [show viewN [(("a" : Str), ea, (["b"] : List Str)), ("b", eb, ["a"])] "b" ["a", "a"] = [] from view_two ea eb] at hq7
    refine ⟨by show 0 ≤ sizeLine; exact Nat.zero_le _, fun z hz => ?_⟩
    refine ⟨.list [], .list [], .lst (.inl (.inl (snew hz _ _ hq7))) .nil, .lst (.inl (.inl upd_same)) .nil, rfl, rfl, ?_⟩
    exact hQ _
end
end A8
set_option Elab.async false
set_option linter.all false
set_option maxRecDepth 100000
set_option maxHeartbeats 0
namespace A8
open PySem PySem.Spec PyProof.Rows L2 AL
def topR (i : Nat) : Stmt := PySem.Challenge.pw_asklines_k09_views_of_lines.main.body.getD i (.Pass ⟨0, 0, 0, 0⟩)
def dd (i : Nat) (x : Str) : He.DefD := ⟨(x, none), x, x, defArgs (topR i), defBody (topR i), defScope (topR i), [], []⟩
def fnL : List He.DefD := [dd 8 "is_name", dd 9 "is_tree", dd 10 "_has_proper_list", dd 11 "_is_one_piece_without_cycles", dd 12 "is_node", dd 13 "check_tree", dd 14 "check_node", dd 15 "steps_to", dd 18 "is_line", dd 19 "check_line", dd 20 "step_table", dd 21 "view_by", dd 22 "view", dd 23 "views", dd 25 "_law_pot", dd 26 "_law_take", dd 27 "_law_some", dd 28 "_law_tree", dd 29 "_law_line", dd 30 "_law_sizes", dd 31 "_law_towards", dd 32 "_law_view", dd 33 "_law_right", dd 34 "law"]
def faL : List He.Fa := [.glo "is_name", .glo "is_tree", .glo "_has_proper_list", .glo "_is_one_piece_without_cycles", .glo "is_node", .glo "check_tree", .glo "check_node", .glo "steps_to", .glo "is_line", .glo "check_line", .glo "step_table", .glo "view_by", .glo "view", .glo "views", .glo "_law_pot", .glo "_law_take", .glo "_law_some", .glo "_law_tree", .glo "_law_line", .glo "_law_sizes", .glo "_law_towards", .glo "_law_view", .glo "_law_right", .glo "law", .free "all", .free "dict", .free "isinstance", .free "len", .free "list", .free "max", .free "min", .free "range", .free "repr", .free "set", .free "sorted", .free "str", .free "sum", .int "MOST_NODES" 40, .int "MOST_LETTERS" 8, .int "MOST_ENTRIES" 400]
def tfL : List He.Defn := [("is_name", none), ("is_tree", none), ("_has_proper_list", none), ("is_line", none)]
abbrev RR : PySem.W.OpenRow := PySem.W.OpenLaw.row PySem.Challenge.rw_asklines_k09_views_of_lines
abbrev hk : PySem.W.Hook := hookG 4 faL fnL [] tfL
def obL (s : PySem.W.SharedT) : AlG := obsG 4 faL fnL [] tfL (HandSHeadRun.getT s)
theorem ob_eq (s : PySem.W.SharedT) : obL s = hk.obs s.abs := obsG_eq (HandSHeadRun.getT_eq s)
def looseL : List Str := ["AskError", "NoTree", "NoNode", "NoLine", "MOST_NODES", "MOST_LETTERS", "MOST_ENTRIES", "is_name", "is_tree", "_has_proper_list", "_is_one_piece_without_cycles", "is_node", "check_tree", "check_node", "steps_to", "is_line", "check_line", "step_table", "view_by", "view", "views", "_law_pot", "_law_take", "_law_some", "_law_tree", "_law_line", "_law_sizes", "_law_towards", "_law_view", "_law_right"]
theorem run (w : World) : HandSHeadRun.RunEq RR (PySem.W.view RR.prog [34]) hk obL 4000 looseL w := by
  intro os
  kernel_rfl
end A8
set_option Elab.async false
set_option linter.all false
set_option maxRecDepth 100000
set_option maxHeartbeats 4000000
namespace A8
open PySem PySem.Spec PyProof.Rows L2 AL
open GxR (TabB TabG Tabbed)
section
variable {P : Program} {w : World} {K : PySem.W.Frag} {h base : Heap} {mg : Str → Option Value}
theorem glo (X : K.In h) (G : h.Ns mainGlobals mg) (c : He.SaysD faL fnL K) {x : Str} (hx : He.Fa.glo x ∈ faL) : mg x = some (.ref (He.fAd K (x, none))) := He.glo_ok X G (c.facts hx)
theorem fre (X : K.In h) (G : h.Ns mainGlobals mg) (c : He.SaysD faL fnL K) {x : Str} (hx : He.Fa.free x ∈ faL) : mg x = none := He.free_ok X G (c.facts hx)
def csL (K : PySem.W.Frag) : List (Addr × Addr) := tfL.map (He.cT K)
def psL (K : PySem.W.Frag) : List Addr := (csL K).map (·.2)
/-- a def by its name and promise -/
theorem cal_of {k : Nat} {sp : Sp} {i : Nat} {x : Str} {fd : FuncData} {ps : List Str} (F : FunD K x x (defArgs (topR i)) (defBody (topR i)) (defScope (topR i)) [] [] (He.fAd K (x, none)) fd) (ok : FnOk P w K mg base CX0 k (He.fAd K (x, none)) fd ps sp)
    (hm : mg x = some (.ref (He.fAd K (x, none)))) (hb : Binds K fd ps []) : Cal P w K mg base k x sp := ⟨_, fd, ps, ok, hm, F.kp, hb⟩
end
section
variable {P : Program} {w : World} {K : PySem.W.Frag} {h base : Heap} {mg : Str → Option Value}
theorem law_ok (X : K.In h) (G : h.Ns mainGlobals mg) (c : He.SaysD faL fnL K) {fd : FuncData} (F34 : FunD K "law" "law" (defArgs (topR 34)) (defBody (topR 34)) (defScope (topR 34)) [] [] (He.fAd K ("law", none)) fd) (TB : ∀ p ∈ csL K, TabB base mg p.1 p.2) :
    FnG P w K mg base CX0 11 (He.fAd K ("law", none)) fd ["script"] (spLaw K (psL K)) := by
  have g : ∀ (i : Nat) (x : Str), faL[i]? = some (.glo x) → mg x = some (.ref (He.fAd K (x, none))) := fun i x hx => He.glo_ok X G (c.fact i (f := .glo x) hx)
  have e : ∀ x : Str, He.Fa.free x ∈ faL → mg x = none := fun x hx => fre X G c hx
  have gI := e "isinstance" (by simp [faL])
  have gA := e "all" (by simp [faL])
  have gLen := e "len" (by simp [faL])
  have gStr := e "str" (by simp [faL])
  have gSo := e "sorted" (by simp [faL])
  have gSet := e "set" (by simp [faL])
  have gLi := e "list" (by simp [faL])
  have gDi := e "dict" (by simp [faL])
  have gSum := e "sum" (by simp [faL])
  have gMin := e "min" (by simp [faL])
  have gMax := e "max" (by simp [faL])
  have gRa := e "range" (by simp [faL])
  have gRe := e "repr" (by simp [faL])
  obtain ⟨t1, i1⟩ := He.int_ok X G (x := "MOST_NODES") (i := 40) (c.facts (by simp [faL]))
  obtain ⟨t2, i2⟩ := He.int_ok X G (x := "MOST_LETTERS") (i := 8) (c.facts (by simp [faL]))
  obtain ⟨t3, i3⟩ := He.int_ok X G (x := "MOST_ENTRIES") (i := 400) (c.facts (by simp [faL]))
  obtain ⟨_, F8⟩ := c.def_ 0 (d := dd 8 "is_name") rfl
  obtain ⟨_, F9⟩ := c.def_ 1 (d := dd 9 "is_tree") rfl
  obtain ⟨_, F10⟩ := c.def_ 2 (d := dd 10 "_has_proper_list") rfl
  obtain ⟨_, F11⟩ := c.def_ 3 (d := dd 11 "_is_one_piece_without_cycles") rfl
  obtain ⟨_, F12⟩ := c.def_ 4 (d := dd 12 "is_node") rfl
  obtain ⟨_, F13⟩ := c.def_ 5 (d := dd 13 "check_tree") rfl
  obtain ⟨_, F14⟩ := c.def_ 6 (d := dd 14 "check_node") rfl
  obtain ⟨_, F15⟩ := c.def_ 7 (d := dd 15 "steps_to") rfl
  obtain ⟨_, F18⟩ := c.def_ 8 (d := dd 18 "is_line") rfl
  obtain ⟨_, F19⟩ := c.def_ 9 (d := dd 19 "check_line") rfl
  obtain ⟨_, F20⟩ := c.def_ 10 (d := dd 20 "step_table") rfl
  obtain ⟨_, F21⟩ := c.def_ 11 (d := dd 21 "view_by") rfl
  obtain ⟨_, F22⟩ := c.def_ 12 (d := dd 22 "view") rfl
  obtain ⟨_, F23⟩ := c.def_ 13 (d := dd 23 "views") rfl
  obtain ⟨_, F25⟩ := c.def_ 14 (d := dd 25 "_law_pot") rfl
  obtain ⟨_, F26⟩ := c.def_ 15 (d := dd 26 "_law_take") rfl
  obtain ⟨_, F27⟩ := c.def_ 16 (d := dd 27 "_law_some") rfl
  obtain ⟨_, F28⟩ := c.def_ 17 (d := dd 28 "_law_tree") rfl
  obtain ⟨_, F29⟩ := c.def_ 18 (d := dd 29 "_law_line") rfl
  obtain ⟨_, F30⟩ := c.def_ 19 (d := dd 30 "_law_sizes") rfl
  obtain ⟨_, F31⟩ := c.def_ 20 (d := dd 31 "_law_towards") rfl
  obtain ⟨_, F32⟩ := c.def_ 21 (d := dd 32 "_law_view") rfl
  obtain ⟨_, F33⟩ := c.def_ 22 (d := dd 33 "_law_right") rfl
  have m : ∀ p : He.Defn, p ∈ tfL → He.cT K p ∈ csL K := fun p hp => List.mem_map.mpr ⟨p, hp, rfl⟩
  have m2 : ∀ p : He.Defn, p ∈ tfL → (He.cT K p).2 ∈ psL K := fun p hp => List.mem_map.mpr ⟨_, m p hp, rfl⟩
  have cName := cal_of (i := 8) (x := "is_name") (mg := mg) (base := base) F8 (ok_isName F8 (code_at F8) (TB _ (m ("is_name", none) (by simp [tfL]))) (m2 ("is_name", none) (by simp [tfL])) gI gA gLen gStr i2) (g 0 "is_name" rfl) (F8.bindsN fun _ _ _ _ _ _ us hl => match us, hl with | [_], _ => rfl) (P := P) (w := w)
  have cNode := cal_of (i := 12) (x := "is_node") (mg := mg) (base := base) F12 (ok_isNode F12 gI gStr) (g 4 "is_node" rfl) (F12.bindsN fun _ _ _ _ _ _ us hl => match us, hl with | [_, _], _ => rfl) (P := P) (w := w)
  have cList := cal_of (i := 10) (x := "_has_proper_list") (mg := mg) (base := base) F10 (ok_hasList F10 (code_at F10) (TB _ (m ("_has_proper_list", none) (by simp [tfL]))) (m2 ("_has_proper_list", none) (by simp [tfL])) cNode gI gA gLi gSo gSet) (g 2 "_has_proper_list" rfl) (F10.bindsN fun _ _ _ _ _ _ us hl => match us, hl with | [_, _], _ => rfl)
  have cSteps := cal_of (i := 15) (x := "steps_to") (mg := mg) (base := base) F15 (ok_steps F15) (g 7 "steps_to" rfl) (F15.bindsN fun _ _ _ _ _ _ us hl => match us, hl with | [_, _], _ => rfl) (P := P) (w := w)
  have cPiece := cal_of (i := 11) (x := "_is_one_piece_without_cycles") (mg := mg) (base := base) F11 (ok_piece F11 cSteps gSum gLen gMin) (g 3 "_is_one_piece_without_cycles" rfl) (F11.bindsN fun _ _ _ _ _ _ us hl => match us, hl with | [_], _ => rfl)
  have cTree := cal_of (i := 9) (x := "is_tree") (mg := mg) (base := base) F9 (ok_isTree F9 (code_at F9) (TB _ (m ("is_tree", none) (by simp [tfL]))) (m2 ("is_tree", none) (by simp [tfL])) cName cList cPiece gI gA gLen gDi i1) (g 1 "is_tree" rfl) (F9.bindsN fun _ _ _ _ _ _ us hl => match us, hl with | [_], _ => rfl)
  have cCheck := cal_of (i := 13) (x := "check_tree") (mg := mg) (base := base) F13 (ok_checkTree F13 cTree) (g 5 "check_tree" rfl) (F13.bindsN fun _ _ _ _ _ _ us hl => match us, hl with | [_], _ => rfl)
  have cCN := cal_of (i := 14) (x := "check_node") (mg := mg) (base := base) F14 (ok_checkNode F14 cNode) (g 6 "check_node" rfl) (F14.bindsN fun _ _ _ _ _ _ us hl => match us, hl with | [_, _], _ => rfl)
  have cLine := cal_of (i := 18) (x := "is_line") (mg := mg) (base := base) F18 (ok_isLine F18 (code_at F18) (TB _ (m ("is_line", none) (by simp [tfL]))) (m2 ("is_line", none) (by simp [tfL])) cCheck cNode gI gA gLen gLi i3) (g 8 "is_line" rfl) (F18.bindsN fun _ _ _ _ _ _ us hl => match us, hl with | [_, _], _ => rfl)
  have cCL := cal_of (i := 19) (x := "check_line") (mg := mg) (base := base) F19 (ok_checkLine F19 cLine) (g 9 "check_line" rfl) (F19.bindsN fun _ _ _ _ _ _ us hl => match us, hl with | [_, _], _ => rfl)
  have cTab := cal_of (i := 20) (x := "step_table") (mg := mg) (base := base) F20 (ok_table F20 cSteps) (g 10 "step_table" rfl) (F20.bindsN fun _ _ _ _ _ _ us hl => match us, hl with | [_], _ => rfl)
  have cVB := cal_of (i := 21) (x := "view_by") (mg := mg) (base := base) F21 (ok_viewBy F21 gRa gLen) (g 11 "view_by" rfl) (F21.bindsN fun _ _ _ _ _ _ us hl => match us, hl with | [_, _, _], _ => rfl) (P := P) (w := w)
  have cView := cal_of (i := 22) (x := "view") (mg := mg) (base := base) F22 (ok_view F22 cCL cCN cTab cVB) (g 12 "view" rfl) (F22.bindsN fun _ _ _ _ _ _ us hl => match us, hl with | [_, _, _], _ => rfl)
  have cViews := cal_of (i := 23) (x := "views") (mg := mg) (base := base) F23 (ok_views F23 cCL cTab cVB gSo) (g 13 "views" rfl) (F23.bindsN fun _ _ _ _ _ _ us hl => match us, hl with | [_, _], _ => rfl)
  have cPot := cal_of (i := 25) (x := "_law_pot") (mg := mg) (base := base) F25 (ok_pot F25 gLen gMax) (g 14 "_law_pot" rfl) (F25.bindsN fun _ _ _ _ _ _ us hl => match us, hl with | [_, _], _ => rfl) (P := P) (w := w)
  have cTake := cal_of (i := 26) (x := "_law_take") (mg := mg) (base := base) F26 (ok_take F26) (g 15 "_law_take" rfl) (F26.bindsN fun _ _ _ _ _ _ us hl => match us, hl with | [_, _], _ => rfl) (P := P) (w := w)
  have cSome := cal_of (i := 27) (x := "_law_some") (mg := mg) (base := base) F27 (ok_some F27 cTake gLen gLi gRa) (g 16 "_law_some" rfl) (F27.bindsN fun _ _ _ _ _ _ us hl => match us, hl with | [_, _, _], _ => rfl)
  have cDraw := cal_of (i := 28) (x := "_law_tree") (mg := mg) (base := base) F28 (ok_tree F28 cTake cSome gRa gLi gMax gSo gDi) (g 17 "_law_tree" rfl) (F28.bindsN fun _ _ _ _ _ _ us hl => match us, hl with | [_, _], _ => rfl)
  have cLn := cal_of (i := 29) (x := "_law_line") (mg := mg) (base := base) F29 (ok_line F29 cTake cSome gRa gLen gMin gSo) (g 18 "_law_line" rfl) (F29.bindsN fun _ _ _ _ _ _ us hl => match us, hl with | [_, _, _], _ => rfl)
  have cSizes := cal_of (i := 30) (x := "_law_sizes") (mg := mg) (base := base) F30 (ok_sizes F30 cTake) (g 19 "_law_sizes" rfl) (F30.bindsN fun _ _ _ _ _ _ us hl => match us, hl with | [_, _], _ => rfl)
  have cTow := cal_of (i := 31) (x := "_law_towards") (mg := mg) (base := base) F31 (ok_tow F31) (g 20 "_law_towards" rfl) (F31.bindsN fun _ _ _ _ _ _ us hl => match us, hl with | [_, _], _ => rfl) (P := P) (w := w)
  have cLV := cal_of (i := 32) (x := "_law_view") (mg := mg) (base := base) F32 (ok_lview F32 cTow) (g 21 "_law_view" rfl) (F32.bindsN fun _ _ _ _ _ _ us hl => match us, hl with | [_, _, _], _ => rfl)
  have fR := ok_right F33 cSome cLV cView cViews gRa gLen gMin gSo gDi gRe
  exact ok_law F34 cPot cTake cSizes cDraw cLn fR (g 22 "_law_right" rfl) F33.kp (F33.bindsN fun _ _ _ _ _ _ us hl => match us, hl with | [_, _, _], _ => rfl) cView cViews gRa gLen gMax gMin gSo
end
end A8
open PySem PySem.W PySem.Calls PyProof.Rows
theorem PySem.Challenge.cw_asklines_k09_views_of_lines_holds : PySem.Challenge.rw_asklines_k09_views_of_lines.Holds := by
  w_on; o_law
  refine HandSHeadRun.head_any (r := A8.RR) (q := view A8.RR.prog [34]) (H := A8.hk) (ob := A8.obL) (M := 4000) (loose := A8.looseL) (d := HandSHeadRun.topDef A8.RR.prog 34) (kwd := []) A8.ob_eq
    (by kernel_rfl) (fun s => by kernel_rfl) A8.run (by kernel_rfl) (by kernel_rfl) (by kernel_rfl) (by rfl) (by first | assumption | decide +kernel) (by decide +kernel) ⟨rfl, rfl, rfl, rfl, rfl, by decide +kernel⟩ ?hw ?hc
  case hw => w_witness2
  case hc =>
    refine AL.walk_ofG (l := PySem.Challenge.rw_asklines_k09_views_of_lines) (n := 63) (k := 11) (x := "script") rfl (by decide) (by kernel_rfl) ⟨by decide, by decide, by decide⟩ (fun w h Y => Y.sys) ?F
    intro w mg fa h Y G hmg0
    obtain ⟨K, KX, c⟩ := Y.x
    have hmg : mg ("law" : PySem.Str) = some (.ref fa) := by
      have e : (HandSHeadRun.topDef A8.RR.prog 34).name = ("law" : PySem.Str) := by kernel_rfl
      rw [← e]
      exact hmg0
    have efa := hmg.symm.trans (He.glo_ok KX G (c.t.d.fact 23 (f := .glo "law") rfl))
    cases efa
    obtain ⟨fd, F34⟩ := c.t.d.def_ 23 (d := A8.dd 34 "law") rfl
    have b := L2.FunD.bindsA (ps := ["script"]) F34 fun _ _ _ _ _ _ us hl => match us, hl with | [_], _ => rfl
    have each : ∀ p ∈ A8.csL K, ∃ q ∈ A8.tfL, He.cT K q = p := fun p hp => List.mem_map.mp hp
    refine ⟨K, fd, A8.csL K, A8.spLaw K (A8.psL K), KX, ?_⟩
    refine ⟨fun p hp => ?_, fun p hp => ?_, fun p hp => ?_, AL.saysG_nosys c, fun s u => b s [u] rfl, fun H a ns hl _ hT hY hS => ⟨a, ns, rfl, hl, hS, fun p hp => ?_, hY, fun _ => rfl⟩, fun base _ _ TB => A8.law_ok KX G c.t.d F34 TB⟩
    · obtain ⟨q, hq, e⟩ := each p hp
      exact e ▸ c.empty q hq
    · obtain ⟨q, hq, e⟩ := each p hp
      exact e ▸ c.out q hq
    · obtain ⟨q, hq, e⟩ := each p hp
      exact e ▸ PySem.W.codeHd_of_K KX (c.hd q hq)
    · obtain ⟨q, hq, e⟩ := List.mem_map.mp hp
      exact ⟨#[], e ▸ hT q hq, trivial⟩
