import PyProof.Rows.All
import Wide.All
import OpenK.AllK
import Wide.FinOn
import HandS.ForMost
import HandS.AnyAll
import HandS.GenOver
import HandS.GenList
import HandS.Set
import HandS.SetFor
import HandS.Strs
import HandS.SetTxt0
import HandS.More
import HandS.Sort
import PyProof.ReprRoads
import PyProof.ReprLen
import HandS.HeadHook4
import HandS.HeadWalk
import HandS.Head2
import HandS.HeadEnd
import HandS.DictComp
import HandS.Star
import HandS.DeepEq
import HandS.Small
import HandS.SortRule
import HandS.Iter
import KE.KDictZip
import HandS.Words
import HandS.WordsDict
import HandS.IsInst
import HandS.Wide
import HandS.RaiseOp
import PySem.Challenge.RW_asklines_k47_trees_written
import HandS.Walk
import HandS.Finally
import HandS.Text
import PyProof.StrLawsTight
import HandS.FStr
import HandS.Flow
import HandS.SetKeys
import HandS.LawCells
import Lean
import KE.KStateDown
import KE.KNestM
set_option Elab.async false
set_option linter.all false
set_option maxRecDepth 100000
set_option maxHeartbeats 4000000
namespace AL
open PySem PySem.Spec PyProof.Rows L2
open GxR (TabB TabG Tabbed inv_tab sh_eta)

theorem ge2_out (elt t0 i0 t1 i1 : Expr) (scope : Scope) (pos : Pos) (it acc : Value) (env : Env) :
    compTurn (.GeneratorExp elt [⟨t0, i0, [], 0⟩, ⟨t1, i1, [], 0⟩] scope pos) 0 it acc env = (do
      standAt i0.pos
      match ← pyNext it with
      | none => pure (.done .next)
      | some v =>
        letOwnedTupleGo t0 it v
        assign t0 env v
        let x ← eval i1 env
        standAt i1.pos
        let x ← foldedSetIterable i1 env x
        let _ ← runOwn (.compStart (.GeneratorExp elt [⟨t0, i0, [], 0⟩, ⟨t1, i1, [], 0⟩] scope pos) 1 (← holding [x] (pyIter x)) acc env) env
        again (.compLoop (.GeneratorExp elt [⟨t0, i0, [], 0⟩, ⟨t1, i1, [], 0⟩] scope pos) 0 it acc env)) := by rfl
theorem ge2_in (elt t0 i0 t1 i1 : Expr) (scope : Scope) (pos : Pos) (it acc : Value) (env : Env) :
    compTurn (.GeneratorExp elt [⟨t0, i0, [], 0⟩, ⟨t1, i1, [], 0⟩] scope pos) 1 it acc env = (do
      standAt i1.pos
      match ← pyNext it with
      | none => pure (.done .next)
      | some v =>
        letOwnedTupleGo t1 it v
        assign t1 env v
        (do let v ← eval elt env; standAt elt.pos; let _ ← yieldOut env v)
        again (.compLoop (.GeneratorExp elt [⟨t0, i0, [], 0⟩, ⟨t1, i1, [], 0⟩] scope pos) 1 it acc env)) := by rfl
theorem ge1 (elt t0 i0 : Expr) (scope : Scope) (pos : Pos) (it acc : Value) (env : Env) :
    compTurn (.GeneratorExp elt [⟨t0, i0, [], 0⟩] scope pos) 0 it acc env = (do
      standAt i0.pos
      match ← pyNext it with
      | none => pure (.done .next)
      | some v =>
        letOwnedTupleGo t0 it v
        assign t0 env v
        (do let v ← eval elt env; standAt elt.pos; let _ ← yieldOut env v)
        again (.compLoop (.GeneratorExp elt [⟨t0, i0, [], 0⟩] scope pos) 0 it acc env)) := by rfl

/-- the generator sleeps: its consumer touches nothing -/
structure Quietly (s s' : Shared) : Prop where
  heap : s'.heap = s.heap
  os : s'.os = s.os
  bare : AllBare s'.gens
theorem inv_quietly {X : Cx} {pins : List (Addr × Obj)} {σ : L2.St} {H : Hp} {s s' : Shared} (I : Inv X pins σ H s) (q : Quietly s s') : Inv X pins σ H s' := by
  obtain ⟨hh, g, d, t, o⟩ := s'
  obtain ⟨e1, e2, e3⟩ := q
  have e1 : hh = s.heap := e1
  subst e1
  exact ⟨I.ok, (show o = _ from e2).trans I.os, e3, I.base, I.loc, I.cell, I.free, I.freeC, I.pin, I.hok, I.len⟩
theorem quietly_trans {s s' s'' : Shared} (a : Quietly s s') (b : Quietly s' s'') : Quietly s s'' := ⟨b.heap.trans a.heap, b.os.trans a.os, b.bare⟩
theorem quietly_setGen {s : Shared} {g : Nat} {x : GenState} (h : AllBare s.gens) (hx : x.bare = true) : Quietly s (s.setGen g x) := ⟨rfl, rfl, allBare_setGen h hx⟩
theorem setGen_at {s : Shared} {g : Nat} {x : GenState} (h : g < s.gens.size) : (s.setGen g x).gens[g]? = some x := by
  show (s.gens.setIfInBounds g x)[g]? = some x
  rw [Array.getElem?_setIfInBounds_self_of_lt h]

/-- names of a generator expression -/
structure GOk (N : List Str) (sc scope : Scope) (own : List (Str × Nat)) : Prop where
  blk : BlkOk N sc scope own
  co : scope.isCoroutine = false
  cell : ∀ y ∈ scope.names, y.2 ≠ .cell
  dot : scope.names.lookup (".0" : Str) = some NameKind.local
theorem gOk_by {N : List Str} {sc scope : Scope} {own : List (Str × Nat)} (h : blkC N sc scope own = true) (h2 : scope.isCoroutine = false) (h3 : (scope.names.all fun y => match y.2 with | .cell => false | _ => true) = true)
    (h4 : scope.names.lookup (".0" : Str) = some NameKind.local) : GOk N sc scope own :=
  ⟨blkOk_by h, h2, fun y hy e => by
    have q := List.all_eq_true.mp h3 y hy
    rw [e] at q
    exact Bool.noConfusion q, h4⟩

/-- the context of a generator expression's frame: made at s, its iterator's objects fp, its generator pn -/
abbrev gcx (X : Cx) (s : Shared) (H : Hp) (cenv : Env) (fp : List Addr) (A : Around) (pn : List (Addr × Obj)) : Cx :=
  { X with s_0 := s, H_0 := H, env := cenv, outer := X.stack, stack := cenv :: X.stack, ex := fp, fn := fun _ => false, pn := pn, A := A, xe := fun _ _ => False }
section
variable {X : Cx} {pins : List (Addr × Obj)} {σ : L2.St} {H : Hp} {s : Shared}

theorem gen_start {scope : Scope} {own : List (Str × Nat)} {fp : List Addr} {code : Value} {A : Around} {s2 : Shared} {m : Str → Option Value} {pn : List (Addr × Obj)} (I : Inv X pins σ H s) (ok : GOk X.N X.env.scope scope own) (hN : X.N.Nodup)
    (hfp : ∀ b ∈ fp, FpOk X pins H b ∧ b < s.heap.objs.size) (hA : A.handled = none)
    (hAf : A.frames = some (genEnv scope (cloFrom X.env.cells scope.names []) s.heap.objs.size code builtinsNs X.env :: X.stack))
    (kp : ∀ b o, s.heap.get? b = some o → s2.heap.get? b = some o) (hn : s2.heap.Ns s.heap.objs.size m) (hos : s2.os = s.os) (hb : AllBare s2.gens)
    (hpn : ∀ p ∈ pn, s2.heap.get? p.1 = some p.2 ∧ s.heap.objs.size < p.1 ∧ ∀ v, p.2.data ≠ .cell v) :
    Inv (gcx X s H (genEnv scope (cloFrom X.env.cells scope.names []) s.heap.objs.size code builtinsNs X.env) fp A pn) [] (wipe σ (own.map (·.2))) H s2 := by
  have hfree : ∀ y ∈ scope.names, y.2 = .free → ∃ c, X.env.cells.lookup y.1 = some c := fun y hy e => by
    rcases ok.blk.free y hy e with k | k
    · exact I.ok.has _ (.inl k)
    · exact I.ok.has _ (.inr k)
  generalize hcenv : genEnv scope (cloFrom X.env.cells scope.names []) s.heap.objs.size code builtinsNs X.env = cenv at hAf ⊢
  have hL : cenv.locals = s.heap.objs.size := by rw [← hcenv]; rfl
  have hcl : cenv.cells = cloFrom X.env.cells scope.names [] := by rw [← hcenv]; rfl
  have hsc : cenv.scope = scope := by rw [← hcenv]; rfl
  have hfr : cenv.frame = some s.heap.objs.size := by rw [← hcenv]; rfl
  have hgl : cenv.globals = X.env.globals := by rw [← hcenv]; rfl
  have hbl : cenv.builtins = builtinsNs := by rw [← hcenv]; rfl
  have cm : ∀ {y c}, (y, c) ∈ cloFrom X.env.cells scope.names [] → X.env.cells.lookup y = some c ∧ c < s.heap.objs.size := fun {y c} hm => by
    rcases cloFrom_mem hm with hm | ⟨h1, rfl⟩
    · cases hm
    · obtain ⟨c, hc⟩ := hfree _ h1 rfl
      rw [hc]
      obtain ⟨w, z⟩ := I.cell _ _ hc
      exact ⟨rfl, z.lt⟩
  have mem : ∀ {y c}, cenv.cells.lookup y = some c → X.env.cells.lookup y = some c ∧ c < s.heap.objs.size := fun {y c} e => by
    rw [hcl] at e
    exact cm (PySem.mem_of_lookup e)
  have look : ∀ {y}, scope.names.lookup y = some .free → ∃ c, cenv.cells.lookup y = some c ∧ X.env.cells.lookup y = some c := fun {y} hl => by
    have hy : (y, NameKind.free) ∈ scope.names := PySem.mem_of_lookup hl
    obtain ⟨c', e'⟩ := mem_lookup (cloFrom_has (cells := X.env.cells) (acc := []) hy)
    rw [← hcl] at e'
    exact ⟨c', e', (mem e').1⟩
  have okB : (gcx X s H cenv fp A pn).Ok := by
    refine ⟨I.ok.mod, by show cenv.scope.kind = _; rw [hsc]; exact ok.blk.kind, by show cenv.globals = _; rw [hgl]; exact I.ok.glob, hbl, by show s.heap.objs.size ≤ cenv.locals; rw [hL]; exact Nat.le_refl _,
      fun y z c e1 e2 => I.ok.inj y z c (mem e1).1 (mem e2).1, fun y hy => ?_, fun y c z e => Bool.noConfusion z, fun _ => hA, hAf, .inr ⟨rfl, by rw [hfr, hL]⟩, fun b hb => ⟨?_, fun y c e z => ?_⟩, I.bs, Nat.le_trans I.ok.bsz I.sz, fun b o e hb => ?_, fun b hb z => ?_, I.stack, I.stkFree⟩
    · show ∃ c, cenv.cells.lookup y = some c
      have key : ∀ k, cenv.kindOf y = some k → (k = .cell ∨ k = .free) → ∃ c, cenv.cells.lookup y = some c := fun k hk hk' => by
        unfold Env.kindOf at hk
        rw [hsc] at hk
        rcases hk' with rfl | rfl
        · exact absurd rfl (ok.cell _ (PySem.mem_of_lookup hk))
        · obtain ⟨c, h1, _⟩ := look hk
          exact ⟨c, h1⟩
      rcases hy with hy | hy
      · exact key _ hy (.inl rfl)
      · exact key _ hy (.inr rfl)
    · show b ≠ cenv.locals
      rw [hL]; exact Nat.ne_of_lt (hfp b hb).2
    · exact (hfp b hb).1.2.2.2.2.1 y c (mem (show cenv.cells.lookup y = some c from e)).1 z
    · rcases (hfp b hb).1.2.2.2.1 with z | z
      · exact I.ok.noex b o e z
      · exact absurd (Nat.lt_of_lt_of_le (Heap.lt_size e) (Nat.le_trans I.ok.bsz z)) (Nat.lt_irrefl _)
    · rcases List.mem_cons.mp (I.stkSub b z) with z | z
      · exact (hfp b hb).1.2.1 z
      · exact (hfp b hb).1.2.2.1 z
  refine ⟨okB, hos, hb, Un.kept kp, ⟨m, ?_, fun i y av e1 e2 e3 => ?_⟩, fun y c e => ?_, ?_, fun y c e => ?_, fun p hp => ?_, I.hok.kept kp, by rw [wipe_length]; exact I.len⟩
  · show Heap.Ns _ cenv.locals _
    rw [hL]
    exact hn
  · obtain ⟨e2, hne⟩ := wipe_some e2
    have hfrr : scope.names.lookup y = some .free := by
      have e3 : Vis cenv.scope y := e3
      rw [hsc] at e3
      have no : ∀ k', scope.names.lookup y = some k' → ¬ (k' = .local ∨ k' = .cell) := fun k' e hh => by
        rcases ok.blk.own _ (PySem.mem_of_lookup e) hh with e' | e'
        · obtain ⟨p, hp, hpy⟩ := List.mem_map.mp e'
          have e3 := ok.blk.ix p hp
          have : p.1 = y := hpy
          rw [this] at e3
          exact hne (List.mem_map.mpr ⟨p, hp, nodup_ix hN e3 e1⟩)
        · exact e' (List.mem_of_getElem? e1)
      rcases e3 with e3 | e3 | e3
      · exact absurd (.inl rfl) (no _ e3)
      · exact absurd (.inr rfl) (no _ e3)
      · exact e3
    obtain ⟨m', hn', hl⟩ := I.loc
    have hvis : Vis X.env.scope y := (ok.blk.free _ (PySem.mem_of_lookup hfrr) rfl).elim (fun k => .inr (.inl k)) (fun k => .inr (.inr k))
    obtain ⟨w, r, q⟩ := hl i y av e1 e2 hvis
    refine ⟨w, r, .inr ⟨.inr (by show cenv.scope.names.lookup y = _; rw [hsc]; exact hfrr), ?_⟩⟩
    obtain ⟨c, h1, h2⟩ := look hfrr
    rcases q with ⟨k, _⟩ | ⟨_, c', e', z⟩
    · have k : X.env.scope.names.lookup y = some .local := k
      rcases ok.blk.free _ (PySem.mem_of_lookup hfrr) rfl with k' | k' <;> rw [show X.env.scope.names.lookup y = _ from k'] at k <;> cases k
    · rw [h2] at e'; cases e'
      exact ⟨c, h1, z.keeps kp⟩
  · have e : cenv.cells.lookup y = some c := e
    obtain ⟨w, z⟩ := I.cell y c (mem e).1
    exact ⟨w, z.keeps kp⟩
  · show H cenv.locals = none
    rw [hL]; exact I.hok.fresh (Nat.le_refl _)
  · have e : cenv.cells.lookup y = some c := e
    exact I.freeC y c (mem e).1
  · have hp : p ∈ pn := by
      rcases List.mem_append.mp hp with z | z
      · exact z
      · cases z
    obtain ⟨h1, h2, h3⟩ := hpn p hp
    refine ⟨h1, I.hok.fresh (Nat.le_of_lt h2), ?_, fun z => ?_, h3⟩
    · show p.1 ≠ cenv.locals
      rw [hL]; exact Nat.ne_of_gt h2
    · have z : p.1 ∈ frs X.stack := z
      rcases List.mem_cons.mp (I.stkSub _ z) with e | e
      · rw [e] at h2
        exact absurd (Nat.lt_trans I.lt h2) (Nat.lt_irrefl _)
      · exact I.nofs (Nat.le_of_lt h2) e
end
end AL
set_option Elab.async false
set_option linter.all false
set_option maxRecDepth 100000
set_option maxHeartbeats 4000000
namespace AL
open PySem PySem.Spec PyProof.Rows L2
open GxR (TabB TabG Tabbed inv_tab sh_eta)

/-- at a yield: a truth value; the one that ends the walk (d), or one that lets it go on -/
def GYA (a : Addr) (g : Nat) (d : Bool) (FinF : Shared → Prop) : Protocol := fun n s₀ v s kap =>
  ∃ b, v = .bool b ∧ s.heap.IsGen a g ∧ s.heap.NoLimit ∧ AllBare s.gens ∧ (b = d → FinF s) ∧ (b ≠ d → ∀ s', Quietly s s' → kap (.send .none) s')
abbrev GRA (FinT : Shared → Prop) : GenEnd := fun n s₀ r s₁ => r = .ok .next ∧ FinT s₁
/-- the generator at a, asleep; at most n items are to come -/
def GAt (P : Program) (w : World) (A : Around) (a : Addr) (g : Nat) (d : Bool) (FinT FinF : Shared → Prop) (n : Nat) (s : Shared) : Prop :=
  s.heap.IsGen a g ∧ s.heap.NoLimit ∧ AllBare s.gens ∧ ∃ gs, s.gens[g]? = some gs ∧ ∀ s', Quietly s s' → gs.Goes (model P w) A (GRA FinT) (GYA a g d FinF) n (.send .none) s'

section
variable {P : Program} {w : World} {A : Around} {a : Addr} {g : Nat} {FinT FinF : Shared → Prop}
theorem next_gen {d : Bool} {n : Nat} {s : Shared} {E : Value → Shared → Prop} {Q : Option Value → Shared → Prop} (hh : A.handled = none) (hroom : A.depth < recursionLimit) (h : GAt P w A.in1 a g d FinT FinF n s)
    (hT : ∀ s₁ s', FinT s₁ → AllBare s'.gens → s'.os = s₁.os → (∀ b o, s₁.heap.get? b = some o → s'.heap.get? b = some o) → Q none s')
    (hF : ∀ s₁ s', FinF s₁ → Quietly s₁ s' → Q (some (.bool d)) s')
    (hG : ∀ m s', m < n → GAt P w A.in1 a g d FinT FinF m s' → Q (some (.bool (!d))) s')
    (hTb : ∀ s, FinT s → AllBare s.gens) :
    wpAny (model P w) A (pyNext (.ref a)) Q E s := by
  obtain ⟨hg, hl, hb, gs, hgs, hgo⟩ := h
  have hlt : g < s.gens.size := (Array.getElem?_eq_some_iff.mp hgs).1
  refine GenW.wpAny_gsz (n := g + 1) hlt ?_
  refine wpAny_pyNext_genexpQ (P := fun _ _ s => FinT s) hh hl hroom hg hgs (hgo _ (quietly_setGen hb rfl)) (fun v s₁ gs' hgb hv => ?_) (fun s₁ hp h' hk => ?_)
  · intro hsz
    rw [GenW.setGen_size] at hsz
    obtain ⟨b, rfl, hg1, hl1, hb1, hd, hn⟩ := hv
    by_cases e : b = d
    · subst e
      exact hF s₁ _ (hd rfl) (quietly_setGen hb1 hgb)
    · have e2 : b = !d := by
        cases b <;> cases d <;> first | rfl | exact absurd rfl e
      have hn := hn e
      cases n with
      | zero => exact (hn s₁ ⟨rfl, rfl, hb1⟩).elim
      | succ m =>
        rw [e2]
        exact hG m _ (Nat.lt_succ_self m) ⟨hg1, hl1, allBare_setGen hb1 hgb, gs', setGen_at hsz, fun s' q => hn s' (quietly_trans (quietly_setGen hb1 hgb) q)⟩
  · intro _
    exact hT s₁ _ hp (allBare_setGen (s := s₁) (hTb s₁ hp) rfl) rfl hk

theorem all_gen_loop {R : Result → Shared → Prop} (hh : A.handled = none) (hroom : A.depth < recursionLimit)
    (hT : ∀ s₁ s', FinT s₁ → AllBare s'.gens → s'.os = s₁.os → (∀ b o, s₁.heap.get? b = some o → s'.heap.get? b = some o) → R (.ok (.ret (.bool true))) s')
    (hF : ∀ s₁ s', FinF s₁ → Quietly s₁ s' → R (.ok (.ret (.bool false))) s') (hTb : ∀ s, FinT s → AllBare s.gens) : ∀ (n : Nat) (s : Shared), GAt P w A.in1.in1 a g false FinT FinF n s →
      codeAny (model P w) A (.builtin "all.loop" ⟨[.ref a], []⟩) R s := by
  intro n
  induction n using Nat.strongRecOn with
  | _ n ih =>
    intro s h
    refine codeAny_builtin F.entry_all_loop ?_
    rw [Around.under_plainId F.plain_all_loop _]
    show wpAny _ A.in1 (pyNext (.ref a) >>= _) _ _ s
    refine wpAny_bind (next_gen (A := A.in1) hh hroom h (fun s₁ s' h1 h2 h3 h4 => ?_) (fun s₁ s' h1 h2 => ?_) (fun m s' hm h1 => ?_) hTb)
    · exact wpAny_bind (wpAny_rule (wpAny_pure (hT s₁ s' h1 h2 h3 h4)))
    · refine wpAny_bind (wpAny_holding (wpAny_truthy_bool ?_))
      refine wpAny_bind (wpAny_letGo ?_)
      simp only [Bool.false_eq_true, if_false]
      exact wpAny_bind (wpAny_rule (wpAny_pure (hF s₁ s' h1 h2)))
    · refine wpAny_bind (wpAny_holding (wpAny_truthy_bool ?_))
      refine wpAny_bind (wpAny_letGo ?_)
      simp only [Bool.not_false, if_true]
      exact wpAny_pure ⟨plainId_quiet F.plain_all_loop _, ih m hm s' h1⟩
theorem any_gen_loop {R : Result → Shared → Prop} (hh : A.handled = none) (hroom : A.depth < recursionLimit)
    (hT : ∀ s₁ s', FinT s₁ → AllBare s'.gens → s'.os = s₁.os → (∀ b o, s₁.heap.get? b = some o → s'.heap.get? b = some o) → R (.ok (.ret (.bool false))) s')
    (hF : ∀ s₁ s', FinF s₁ → Quietly s₁ s' → R (.ok (.ret (.bool true))) s') (hTb : ∀ s, FinT s → AllBare s.gens) : ∀ (n : Nat) (s : Shared), GAt P w A.in1.in1 a g true FinT FinF n s →
      codeAny (model P w) A (.builtin "any.loop" ⟨[.ref a], []⟩) R s := by
  intro n
  induction n using Nat.strongRecOn with
  | _ n ih =>
    intro s h
    refine codeAny_builtin F.entry_any_loop ?_
    rw [Around.under_plainId F.plain_any_loop _]
    show wpAny _ A.in1 (pyNext (.ref a) >>= _) _ _ s
    refine wpAny_bind (next_gen (A := A.in1) hh hroom h (fun s₁ s' h1 h2 h3 h4 => ?_) (fun s₁ s' h1 h2 => ?_) (fun m s' hm h1 => ?_) hTb)
    · exact wpAny_bind (wpAny_rule (wpAny_pure (hT s₁ s' h1 h2 h3 h4)))
    · refine wpAny_bind (wpAny_holding (wpAny_truthy_bool ?_))
      refine wpAny_bind (wpAny_letGo ?_)
      simp only [if_true]
      exact wpAny_bind (wpAny_rule (wpAny_pure (hF s₁ s' h1 h2)))
    · refine wpAny_bind (wpAny_holding (wpAny_truthy_bool ?_))
      refine wpAny_bind (wpAny_letGo ?_)
      simp only [Bool.not_true, Bool.false_eq_true, if_false]
      exact wpAny_pure ⟨plainId_quiet F.plain_any_loop _, ih m hm s' h1⟩
theorem call_all_gen {n : Nat} {s : Shared} {Q E : Value → Shared → Prop} (hh : A.handled = none) (hroom : A.depth < recursionLimit) (h : GAt P w A.in1.in1 a g false FinT FinF n s)
    (hT : ∀ s₁ s', FinT s₁ → AllBare s'.gens → s'.os = s₁.os → (∀ b o, s₁.heap.get? b = some o → s'.heap.get? b = some o) → Q (.bool true) s')
    (hF : ∀ s₁ s', FinF s₁ → Quietly s₁ s' → Q (.bool false) s') (hTb : ∀ s, FinT s → AllBare s.gens) :
    wpAny (model P w) A (call (.builtin "all") [.ref a]) Q E s := by
  refine call_function_tree F.kind_all F.plain_all F.entry_all (F.args_all1 _) ?_
  unfold Builtin.«all»
  refine wpAny_bind (m := oneArg "all" _) (wpAny_pure ?_)
  refine wpAny_bind (wpAny_pyIter_gen h.1 ?_)
  exact wpAny_pure ⟨plainId_quiet F.plain_all_loop _, all_gen_loop hh hroom hT hF hTb n s h⟩
theorem call_any_gen {n : Nat} {s : Shared} {Q E : Value → Shared → Prop} (hh : A.handled = none) (hroom : A.depth < recursionLimit) (h : GAt P w A.in1.in1 a g true FinT FinF n s)
    (hT : ∀ s₁ s', FinT s₁ → AllBare s'.gens → s'.os = s₁.os → (∀ b o, s₁.heap.get? b = some o → s'.heap.get? b = some o) → Q (.bool false) s')
    (hF : ∀ s₁ s', FinF s₁ → Quietly s₁ s' → Q (.bool true) s') (hTb : ∀ s, FinT s → AllBare s.gens) :
    wpAny (model P w) A (call (.builtin "any") [.ref a]) Q E s := by
  refine call_function_tree F.kind_any F.plain_any F.entry_any (F.args_any1 _) ?_
  unfold Builtin.«any»
  refine wpAny_bind (m := oneArg "any" _) (wpAny_pure ?_)
  refine wpAny_bind (wpAny_pyIter_gen h.1 ?_)
  exact wpAny_pure ⟨plainId_quiet F.plain_any_loop _, any_gen_loop hh hroom hT hF hTb n s h⟩
end
end AL
set_option Elab.async false
set_option linter.all false
set_option maxRecDepth 100000
set_option maxHeartbeats 4000000
namespace AL
open PySem PySem.Spec PyProof.Rows L2
open GxR (TabB TabG Tabbed inv_tab sh_eta)

/-- one clause: what is walked in the generator's frame -/
structure W1 (K : PySem.W.Frag) (J : It) (g : TG) (te : TE) (σ0 : L2.St) (vs : List Nat) (d : Bool) (QT QF : Hp → Prop) (W : Nat → Nat → Hp → Prop) : Prop where
  turn : ∀ i m H, W i m H → (J.stop i H ∧ QT H) ∨ (J.go i H ∧ ∀ x H', J.yld i H x H' → g x σ0 H' fun σ2 H2 => wipe σ2 vs = σ0 ∧ te σ2 H2 fun y H3 => ∃ b, y = .bl b ∧ (b = d → QF H3) ∧ (b ≠ d → ∃ m', m' < m ∧ W (i + 1) m' H3))

section
variable {X : Cx} {a : Addr} {g0 : Nat} {d : Bool} {FinT FinF : Shared → Prop} {QT QF : Hp → Prop} {s3 : Shared} {H3 : Hp} {ce : Env} {fp : List Addr} {A : Around} {go : Obj}

theorem seg_one {elt tg iter : Expr} {scope : Scope} {pos : Pos} {it : Addr} {tn : Nat → Heap → Prop} {J : It} {g : TG} {te : TE} {σ0 : L2.St} {vs : List Nat} {W : Nat → Nat → Hp → Prop}
    (hgo : ∀ h : Heap, h.get? a = some go → h.IsGen a g0)
    (hXA : ∀ c : Code, c = .compLoop (.GeneratorExp elt [⟨tg, iter, [], 0⟩] scope pos) 0 (.ref it) .none ce → A.over c [] = X.A) (hco : ce.scope.isCoroutine = false)
    (henv : X.env = ce) (hcalm : X.calm = true) (hxe : ∀ e s, ¬ X.xe e s) (hpn : (a, go) ∈ X.pn)
    (hpn2 : ∀ p ∈ X.pn, ∀ b ∈ fp, p.1 ≠ b) (hex : ∀ b ∈ fp, b ∈ X.ex)
    (T : Turn X.prog X.w X.K tg J fp it tn) (hw0 : ∀ vsσ : L2.St, wipe vsσ vs = σ0 → vsσ.length = σ0.length ∧ ∀ (i : Nat) v, σ0[i]? = some (some v) → vsσ[i]? = some (some v))
    (hg : PG X tg g) (he : PE X elt te) (w1 : W1 X.K J g te σ0 vs d QT QF W)
    (hT : ∀ H s, Inv X [] σ0 H s → QT H → FinT s) (hF : ∀ H s, Inv X [] σ0 H s → QF H → FinF s) :
    ∀ (m n i : Nat) (s₀ s : Shared) (H : Hp), m < n → W i m H → Inv X [] σ0 H s → tn i s.heap → (∀ b ∈ fp, H b = none) →
      Seg (model X.prog X.w) A (GRA FinT) (GYA a g0 d FinF) n s₀ (.compLoop (.GeneratorExp elt [⟨tg, iter, [], 0⟩] scope pos) 0 (.ref it) .none ce)
        ((model X.prog X.w).den (.compLoop (.GeneratorExp elt [⟨tg, iter, [], 0⟩] scope pos) 0 (.ref it) .none ce)) [] s := by
  have stat : ∀ {σ' : L2.St} {H' : Hp} {s' : Shared}, Inv X [] σ' H' s' → (∀ b ∈ fp, H' b = none) → ∀ b ∈ fp, FpOk X [] H' b := fun {σ' H' s'} I' hn b hb =>
    ⟨hn b hb, (I'.ok.exf b (hex b hb)).1, I'.ok.exfs b (hex b hb), .inl (hex b hb), fun x c e => (I'.ok.exf b (hex b hb)).2 x c e, fun p hp => by
      rcases List.mem_append.mp hp with z | z
      · exact hpn2 p z b hb
      · cases z⟩
  intro m
  induction m using Nat.strongRecOn with
  | _ m ih =>
    intro n i s₀ s H hmn hW I st hfp
    have hA := hXA _ rfl
    show Seg _ A _ _ _ s₀ _ ((compTurn (.GeneratorExp elt [⟨tg, iter, [], 0⟩] scope pos) 0 (.ref it) .none ce).onRaise (leaving ce)) [] s
    rw [ge1, Sem.onRaise_eq_wrap]
    refine seg_bind_wrap (wpAny_standAt ?_)
    rcases w1.turn i m H hW with ⟨stop, qt⟩ | ⟨go', step⟩
    · refine seg_bind_wrap ?_
      rw [hA]
      refine thn (T.done X rfl rfl rfl hcalm i [] s σ0 H _ I (stat I hfp) st stop) fun r s1 ⟨hr, I1⟩ => ?_
      subst hr
      exact seg_end (.ok .next) ⟨rfl, hT H s1 I1 qt⟩
    · refine seg_bind_wrap ?_
      rw [hA]
      refine thn (T.item X rfl rfl rfl hcalm i [] s σ0 H _ I (stat I hfp) st go') fun r s1 ⟨u, hr, h1⟩ => ?_
      subst hr
      refine seg_bind_wrap ?_
      rw [hA]
      refine wpAny_mono h1 (fun _ s2 hh => ?_) fun _ _ z => z
      obtain ⟨x, H2, I2, r2, y2, st2, n2⟩ := hh
      have I2' := I2.pinned (stat I2 n2) (T.obj _ _ st2)
      refine seg_bind_wrap ?_
      rw [hA]
      have hgr := hg.run _ s2 σ0 H2 x u _ I2' r2 (step x H2 y2)
      rw [henv] at hgr
      refine wpAny_mono hgr (fun _ s4 ⟨σ4, H4, I4, hw4, q4⟩ => ?_) fun e s' z => (hxe e s' z).elim
      have hy : ∀ v, yieldOut ce v = yieldValue v := fun v => by simp only [yieldOut, hco, Bool.false_eq_true, if_false]
      simp only [hy]
      rw [Sem.bind_eq_wrap', Sem.bind_eq_wrap', Sem.wrap_wrap, Sem.wrap_wrap]
      refine seg_wrap ?_
      rw [hA]
      have her := he.run _ s4 σ4 H4 _ I4 q4
      rw [henv] at her
      refine wpAny_mono her (fun yv s5 ⟨y, H5, I5, r5, b, hyb, qd, qn⟩ => ?_) fun e s' z => (hxe e s' z).elim
      subst hyb
      have r5 : yv = .bool b := r5
      subst r5
      have pin' : ∀ q ∈ fp, ∀ o, s2.heap.get? q = some o → s5.heap.get? q = some o ∧ H5 q = none := fun q hb o e =>
        let z := I5.pin (q, o) (List.mem_append_right _ (List.mem_append_right _ (mem_pinsAt hb e)))
        ⟨z.1, z.2.1⟩
      obtain ⟨hl4, hv4⟩ := hw0 σ4 hw4
      have I6 : Inv X [] σ0 H5 s5 := (I5.unpinned (pins := [])).weak hl4.symm fun j v e => hv4 j v e
      have hgen : s5.heap.IsGen a g0 := hgo _ (I6.pin (a, go) (List.mem_append_left _ hpn)).1
      by_cases hbd : b = d
      · cases n with
        | zero => omega
        | succ n => exact seg_at (seg_yield rfl rfl rfl ⟨b, rfl, hgen, I6.nolimit, I6.bare, fun _ => hF H5 s5 I6 (qd hbd), fun z => absurd hbd z⟩)
      · obtain ⟨m', hm', w'⟩ := qn hbd
        cases n with
        | zero => omega
        | succ n =>
          refine seg_at (seg_yield rfl rfl rfl ⟨b, rfl, hgen, I6.nolimit, I6.bare, fun z => absurd z hbd, fun _ s' q => ?_⟩)
          refine seg_again rfl (ih m' hm' n (i + 1) s' s' H5 (by omega) w' (inv_quietly I6 q) ?_ fun q' hb => ?_)
          · rw [q.heap]
            exact T.keep _ _ _ st2 fun q' hb o e => (pin' q' hb o e).1
          · obtain ⟨o, e, _⟩ := T.obj _ _ st2 q' hb
            exact (pin' q' hb o e).2
end
end AL
set_option Elab.async false
set_option linter.all false
set_option maxRecDepth 100000
set_option maxHeartbeats 4000000
namespace AL
open PySem PySem.Spec PyProof.Rows L2
open GxR (TabB TabG Tabbed inv_tab sh_eta)

theorem inv_ext {X : Cx} {pins : List (Addr × Obj)} {σ : L2.St} {H : Hp} {s s' : Shared} (I : Inv X pins σ H s) (ho : s'.os = s.os) (hb : AllBare s'.gens) (k : ∀ b o, s.heap.get? b = some o → s'.heap.get? b = some o) : Inv X pins σ H s' :=
  I.call' (ch := []) ho (Un.kept k) (I.hok.kept k) hb fun b z => by simp at z

/-- the frame's code, over its consumer -/
abbrev gcode (elt : Expr) (cs : List Comprehension) (scope : Scope) (pos : Pos) (it : Addr) (ce : Env) : Code := .compLoop (.GeneratorExp elt cs scope pos) 0 (.ref it) .none ce
theorem gcode_frames {elt : Expr} {cs : List Comprehension} {scope : Scope} {pos : Pos} {it : Addr} {ce : Env} {A : Around} {st : List Env} (h : A.frames = some st) : (A.over (gcode elt cs scope pos it ce) []).frames = some (ce :: st) := by
  show pushEnvs [ce] (pushEnvs [] A.frames) = _
  rw [h]
  rfl
theorem gcode_room {elt : Expr} {cs : List Comprehension} {scope : Scope} {pos : Pos} {it : Addr} {ce : Env} {A : Around} {k : Nat} (r : Room (k + 1) A) : Room k (A.in1.in1.over (gcode elt cs scope pos it ce) []) :=
  ⟨r.hd, by have := r.dp; show A.depth + 0 + 1 + 3 * k + 5 < _; omega, by have := r.un; show A.units + 1 + 1 + 0 + 3 + 16 * k + 200 < _; omega⟩

/-- a start of a generator expression's code -/
theorem seg_start {P : Program} {w : World} {A : Around} {R : GenEnd} {Y : Protocol} {n : Nat} {s₀ s : Shared} {elt tg iter : Expr} {cs : List Comprehension} {scope : Scope} {pos : Pos} {it : Addr} {ce : Env} {K : PySem.W.Frag} {J : It} {fp : List Addr} {tn : Nat → Heap → Prop} (T : Turn P w K tg J fp it tn) (st : tn 0 s.heap)
    (h : Seg (model P w) A R Y n s₀ (.compLoop (.GeneratorExp elt (⟨tg, iter, [], 0⟩ :: cs) scope pos) 0 (.ref it) .none ce) ((model P w).den (.compLoop (.GeneratorExp elt (⟨tg, iter, [], 0⟩ :: cs) scope pos) 0 (.ref it) .none ce)) [] s) :
    Seg (model P w) A R Y n s₀ (.compStart (.GeneratorExp elt (⟨tg, iter, [], 0⟩ :: cs) scope pos) 0 (.ref it) .none ce) ((model P w).den (.compStart (.GeneratorExp elt (⟨tg, iter, [], 0⟩ :: cs) scope pos) 0 (.ref it) .none ce)) [] s := by
  show Seg _ A _ _ _ s₀ _ ((compStart (.GeneratorExp elt (⟨tg, iter, [], 0⟩ :: cs) scope pos) 0 (.ref it) .none ce).onRaise (leaving ce)) [] s
  unfold compStart
  rw [Sem.onRaise_eq_wrap]
  show Seg _ A _ _ _ s₀ _ ((ask >>= _).wrap _ _ _ _) [] s
  refine seg_bind_wrap (wpAny_askSetting ?_)
  split
  · exact seg_again rfl h
  · refine seg_bind_wrap (wpAny_rule ?_)
    show Seg _ A _ _ _ s₀ _ ((standAt iter.pos >>= _).wrap _ _ _ _) [] s
    exact seg_bind_wrap (wpAny_standAt (seg_bind_wrap (T.self _ 0 s _ _ st (seg_again rfl h))))

theorem eval_ge (elt target iter : Expr) (cs : List Comprehension) (scope : Scope) (pos : Pos) (env : Env) (hco : scope.isCoroutine = false) :
    eval (.GeneratorExp elt (⟨target, iter, [], 0⟩ :: cs) scope pos) env = (do
      let x ← eval iter env
      standAt iter.pos
      let x ← genFold iter env x
      let it ← holding [x] (pyIter x)
      enterFrame
      let cl ← closureFor scope env
      let code ← genexprCode env pos (env.qual ++ "<genexpr>") scope
      let bi ← builtinsFor env.globals env.builtins
      let cenv ← newFunctionEnv scope env.globals cl [(".0", it)] (env.qual ++ "<genexpr>.") none code none bi
      newGenerator (.compStart (.GeneratorExp elt (⟨target, iter, [], 0⟩ :: cs) scope pos) 0 it .none cenv) "<genexpr>" (env.qual ++ "<genexpr>")) := by
  rw [arm_eval_GeneratorExp]
  simp only [hco, Bool.false_eq_true, if_false]
  cases iter <;> rfl
section
variable {M : Model} {A : Around} {E : Value → Shared → Prop} {s : Shared}
theorem make_ge {env : Env} {elt target iter : Expr} {cs : List Comprehension} {scope : Scope} {cl : List (Str × Addr)} {pos : Pos} {Q : Value → Shared → Prop}
    (hco : scope.isCoroutine = false) (hclos : closureFor scope env = pure cl) (hcell : ∀ y ∈ scope.names, y.2 ≠ .cell) (h0 : scope.names.lookup (".0" : Str) = some NameKind.local) (hkind : scope.kind = .function)
    (hroom : A.depth < recursionLimit)
    (h : wpAny M A (eval iter env) (fun xv s₁ => wpAny M A (pyIter xv) (fun it s₂ => s₂.heap.NoLimit ∧
      wpAny M A (genexprCode env pos (env.qual ++ "<genexpr>") scope) (fun code s₃ => wpAny M A (builtinsFor env.globals env.builtins) (fun bi s₄ =>
        ∀ h', h'.Ns s₄.heap.objs.size (fun y => if y = ".0" then some it else none) → Heap.SameBut s₄.heap.objs.size (s₄.heap.push { cls := .type "frame", data := .dict #[] }) h' →
          Q (.ref h'.objs.size) { s₄ with
            gens := s₄.gens.push (.fresh (.compStart (.GeneratorExp elt (⟨target, iter, [], 0⟩ :: cs) scope pos) 0 it .none (genEnv scope cl s₄.heap.objs.size code bi env))),
            toks := s₄.toks + 1 + 1 + 1,
            heap := h'.push { cls := .type "generator", data := .fields #[.int s₄.gens.size 0, .str "<genexpr>" (s₄.toks + 1), .str (env.qual ++ "<genexpr>") (s₄.toks + 1 + 1)] } }) E s₃) E s₂) E s₁) E s)
    (hs : ∀ x, genFold iter env x = pure x) :
    wpAny M A (eval (.GeneratorExp elt (⟨target, iter, [], 0⟩ :: cs) scope pos) env) Q E s := by
  rw [eval_ge _ _ _ _ _ _ _ hco, hclos]
  refine wpAny_bind (wpAny_mono h (fun xv s₁ h₁ => ?_) fun _ _ e => e)
  refine wpAny_bind (wpAny_standAt ?_)
  refine wpAny_bind (wpAny_of_eq (hs xv) ?_)
  refine wpAny_bind (wpAny_holding (wpAny_mono h₁ (fun it s₂ h₂ => ?_) fun _ _ e => e))
  refine wpAny_bind (wpAny_enterFrame h₂.1 hroom ?_)
  refine wpAny_bind (wpAny_pure ?_)
  refine wpAny_bind (wpAny_mono h₂.2 (fun code s₃ h₃ => ?_) fun _ _ e => e)
  refine wpAny_bind (wpAny_mono h₃ (fun bi s₄ h₄ => ?_) fun _ _ e => e)
  have hbinds : ∀ y ∈ ([((".0" : Str), it)] : List (Str × Value)), scope.names.lookup y.1 = some NameKind.local := by
    intro y hy
    rcases List.mem_cons.mp hy with rfl | hy
    · exact h0
    · cases hy
  refine wpAny_bind (wpAny_newFunctionEnv hcell hbinds (fun h' hn' hs' => ?_) hkind)
  have e : (fun y : Str => ([((".0" : Str), it)] : List (Str × Value)).reverse.lookup y) = fun y : Str => if y = (".0" : Str) then some it else none := by
    funext y
    by_cases hy : y = ".0"
    · subst hy; simp
    · have : (y == (".0" : Str)) = false := by simpa using hy
      simp [List.lookup, this, hy]
  rw [e] at hn'
  simp only [newGenerator, newFields]
  refine wpAny_bind (wpAny_newGen (wpAny_bind (wpAny_mkText (wpAny_bind (wpAny_mkText (wpAny_newObj_type ?_ (by size_fits)))))))
  exact h₄ h' hn' hs'
end
section
variable {X : Cx}
/-- a generator expression made, to be walked by all or any (the consumer's part is a letter) -/
theorem gen_made {pins : List (Addr × Obj)} {σ : L2.St} {H : Hp} {s : Shared} {elt tg iter : Expr} {cs : List Comprehension} {scope : Scope} {own : List (Str × Nat)} {gpos : Pos} {wi : TI} {c P : Addr} {R : It → Hp → Prop} {Q' : Value → Shared → Prop} {d : Bool} {Q : V → Hp → Prop} {k : Nat}
    (hr : Room (k + 1) X.A) (hc : X.calm = true) (hN : X.N.Nodup) (TB : TabB X.base X.mg c P) (hcode : X.env.code = .ref c) (ok : GOk X.N X.env.scope scope own) (hi : PI X tg iter wi) (hs : ∀ v, genFold iter X.env v = pure v)
    (I : Inv X pins σ H s) (h : wi σ H fun J H1 => TabG H1 P ∧ ∀ H2, Tabbed P H1 H2 → R J H2)
    (hseg : ∀ (it : Addr) (fp : List Addr) (tn : Nat → Heap → Prop) (J : It) (H3 : Hp) (s3 : Shared) (code : Value) (a g0 : Nat) (go : Obj), R J H3 → Turn X.prog X.w X.K tg J fp it tn → (∀ h : Heap, h.get? a = some go → h.IsGen a g0) → (∀ b ∈ fp, a ≠ b) → (∀ b ∈ fp, H3 b = none) →
      (∀ H s, Inv (gcx X s3 H3 (genEnv scope (cloFrom X.env.cells scope.names []) s3.heap.objs.size code builtinsNs X.env) fp (X.A.in1.in1.over (gcode elt (⟨tg, iter, [], 0⟩ :: cs) scope gpos it (genEnv scope (cloFrom X.env.cells scope.names []) s3.heap.objs.size code builtinsNs X.env)) []) [(a, go)]) [] (wipe σ (own.map (·.2))) H s → Inv X pins σ H s) →
      ∃ n, ∀ s', Inv (gcx X s3 H3 (genEnv scope (cloFrom X.env.cells scope.names []) s3.heap.objs.size code builtinsNs X.env) fp (X.A.in1.in1.over (gcode elt (⟨tg, iter, [], 0⟩ :: cs) scope gpos it (genEnv scope (cloFrom X.env.cells scope.names []) s3.heap.objs.size code builtinsNs X.env)) []) [(a, go)]) [] (wipe σ (own.map (·.2))) H3 s' → tn 0 s'.heap →
        Seg (model X.prog X.w) X.A.in1.in1 (GRA fun s => ∃ H', Inv X pins σ H' s ∧ Q (.bl (!d)) H') (GYA a g0 d fun s => ∃ H', Inv X pins σ H' s ∧ Q (.bl d) H') n s' (gcode elt (⟨tg, iter, [], 0⟩ :: cs) scope gpos it (genEnv scope (cloFrom X.env.cells scope.names []) s3.heap.objs.size code builtinsNs X.env))
          ((model X.prog X.w).den (gcode elt (⟨tg, iter, [], 0⟩ :: cs) scope gpos it (genEnv scope (cloFrom X.env.cells scope.names []) s3.heap.objs.size code builtinsNs X.env))) [] s')
    (hQ : ∀ (a : Addr) (g0 n : Nat) (s5 : Shared), GAt X.prog X.w X.A.in1.in1 a g0 d (fun s => ∃ H', Inv X pins σ H' s ∧ Q (.bl (!d)) H') (fun s => ∃ H', Inv X pins σ H' s ∧ Q (.bl d) H') n s5 → Q' (.ref a) s5) :
    wpAny (model X.prog X.w) X.A (eval (.GeneratorExp elt (⟨tg, iter, [], 0⟩ :: cs) scope gpos) X.env) Q' X.xe s := by
  have hfree : ∀ y ∈ scope.names, y.2 = .free → ∃ c, X.env.cells.lookup y.1 = some c := fun y hy e => by
    rcases ok.blk.free y hy e with k | k
    · exact I.ok.has _ (.inl k)
    · exact I.ok.has _ (.inr k)
  refine make_ge ok.co (closure_ok hfree) ok.cell ok.dot ok.blk.kind hr.depth (thn (hi.run pins s σ H _ I h) fun xv s1 hx => thn hx fun itv s2 h2 => ?_) hs
  obtain ⟨it, fp, tn, J, H2, e, I2, T, st2, f2, ⟨ps, hP, ht⟩, q2⟩ := h2
  subst e
  have hPs : s2.heap.get? P = some { cls := .none, data := .fields ps } := I2.hok P _ hP
  have cd : PySem.W.CodeHd s2.heap c P := TB.code.keeps fun b u e => I2.bk b u e
  have cont : ∀ (code : Value) (h3 : Heap) (tk : Nat) (ps' : Array Value), Heap.ExtBut P s2.heap h3 → h3.get? P = some { cls := .none, data := .fields ps' } → (∃ more, ps' = ps ++ more) → TriplesOk ps'.toList →
      wpAny (model X.prog X.w) X.A (builtinsFor X.env.globals X.env.builtins) (fun bi s₄ =>
        ∀ h', h'.Ns s₄.heap.objs.size (fun y => if y = ".0" then some (.ref it) else none) → Heap.SameBut s₄.heap.objs.size (s₄.heap.push { cls := .type "frame", data := .dict #[] }) h' →
          Q' (.ref h'.objs.size) { s₄ with
            gens := s₄.gens.push (.fresh (.compStart (.GeneratorExp elt (⟨tg, iter, [], 0⟩ :: cs) scope gpos) 0 (.ref it) .none (genEnv scope (cloFrom X.env.cells scope.names []) s₄.heap.objs.size code bi X.env))),
            toks := s₄.toks + 1 + 1 + 1,
            heap := h'.push { cls := .type "generator", data := .fields #[.int s₄.gens.size 0, .str "<genexpr>" (s₄.toks + 1), .str (X.env.qual ++ "<genexpr>") (s₄.toks + 1 + 1)] } }) X.xe { s2 with heap := h3, toks := tk } := by
    intro code h3 tk ps' hx hP3 hmore ht3
    obtain ⟨bm, ob, e1, e2, e3, e4, e5, e6, e7, e8⟩ := TB.bm
    have keep3 : ∀ b u, b ≠ P → s2.heap.get? b = some u → h3.get? b = some u := fun b u hb e => hx b u hb e
    refine wpAny_builtinsFor (m := X.mg) (by rw [I2.ok.glob]; exact (I2.mod.glob.keeps I2.bk).extBut hx TB.gP) e1 e2 (keep3 _ _ e4 (I2.bk _ _ e5)) e6 e7 e8 ?_
    obtain ⟨more, em⟩ := hmore
    have I3 : Inv X pins σ (upd H2 P (.tbl (ps ++ more))) { s2 with heap := h3, toks := tk } := inv_tab (g' := s2.gens) (d' := s2.drawn) I2 hP keep3 (by rw [← em]; exact hP3) I2.bare
    have hTab : Tabbed P H2 (upd H2 P (.tbl (ps ++ more))) := ⟨⟨ps ++ more, upd_same, by rw [← em]; exact ht3⟩, fun b hb => upd_ne hb⟩
    have qR := q2 _ hTab
    generalize upd H2 P (.tbl (ps ++ more)) = H3 at I3 hTab qR
    generalize hs3 : ({ s2 with heap := h3, toks := tk } : Shared) = s3 at I3 ⊢
    have e3h : s3.heap = h3 := by rw [← hs3]
    intro h' hn' hs'
    have fpP : ∀ b ∈ fp, b ≠ P := fun b hb z => by
      have := (f2 b hb).1
      rw [z, hP] at this
      cases this
    have f3n : ∀ b ∈ fp, H3 b = none := fun b hb => by rw [hTab.2 b (fpP b hb)]; exact (f2 b hb).1
    have f3 : ∀ b ∈ fp, FpOk X pins H3 b ∧ b < s3.heap.objs.size := fun b hb => by
      refine ⟨⟨f3n b hb, (f2 b hb).2⟩, ?_⟩
      obtain ⟨o, e, _⟩ := T.obj _ _ st2 b hb
      rw [e3h]
      exact Heap.lt_size (keep3 b o (fpP b hb) e)
    have st3 : tn 0 s3.heap := T.keep _ _ _ st2 fun b hb o e => by rw [e3h]; exact keep3 b o (fpP b hb) e
    generalize hgo : ({ cls := .type "generator", data := .fields #[.int s3.gens.size 0, .str "<genexpr>" (s3.toks + 1), .str (X.env.qual ++ "<genexpr>") (s3.toks + 1 + 1)] } : Obj) = go
    have hgen : ∀ h : Heap, h.get? h'.objs.size = some go → h.IsGen h'.objs.size s3.gens.size := fun h e => ⟨go, _, _, e, by rw [← hgo], by rw [← hgo], by rw [← hgo]⟩
    have hsz : h'.objs.size = s3.heap.objs.size + 1 := by rw [hs'.1, Heap.size_push]
    have keep' : ∀ b o, s3.heap.get? b = some o → h'.get? b = some o := fun b o e => hs'.extBut b o (Nat.ne_of_lt (Heap.lt_size e)) (Heap.get?_push_of_some _ e)
    have keep5 : ∀ b o, s3.heap.get? b = some o → (h'.push go).get? b = some o := fun b o e => Heap.get?_push_of_some _ (keep' b o e)
    have afp : ∀ b ∈ fp, h'.objs.size ≠ b := fun b hb z => by
      have := (f3 b hb).2
      rw [← z, hsz] at this
      exact absurd (Nat.lt_of_succ_lt this) (Nat.lt_irrefl _)
    have back : ∀ H s, Inv (gcx X s3 H3 (genEnv scope (cloFrom X.env.cells scope.names []) s3.heap.objs.size code builtinsNs X.env) fp (X.A.in1.in1.over (gcode elt (⟨tg, iter, [], 0⟩ :: cs) scope gpos it (genEnv scope (cloFrom X.env.cells scope.names []) s3.heap.objs.size code builtinsNs X.env)) []) [(h'.objs.size, go)]) [] (wipe σ (own.map (·.2))) H s → Inv X pins σ H s := fun H s I6 =>
      I3.call' (ch := fp) I6.os I6.base I6.hok I6.bare fun b hb => ⟨(f3 b hb).1.2.2.2.1, (f3 b hb).1.2.1, (f3 b hb).1.2.2.2.2.1, (f3 b hb).1.2.2.2.2.2⟩
    obtain ⟨n, hn⟩ := hseg it fp tn J H3 s3 code h'.objs.size s3.gens.size go qR T hgen afp f3n back
    refine hQ h'.objs.size s3.gens.size n _ ?_
    have nolim : ∀ {s' : Shared}, (∀ b o, s3.heap.get? b = some o → s'.heap.get? b = some o) → s'.heap.NoLimit := fun {s'} k => I3.nolimit.keeps k
    refine ⟨hgen _ (Heap.get?_push_size _ (by rw [← hgo]; rfl)), I3.nolimit.keeps keep5, AllBare.push I3.bare rfl, _, Array.getElem?_push_size .., fun s' q => ⟨rfl, ?_⟩⟩
    have kq : ∀ b o, s3.heap.get? b = some o → s'.heap.get? b = some o := fun b o e => by rw [q.heap]; exact keep5 b o e
    have st5 : tn 0 s'.heap := T.keep _ _ _ st3 fun b hb o e => kq b o e
    refine seg_start T st5 (hn s' ?_ st5)
    refine gen_start I3 ok hN f3 hr.hd (gcode_frames (I3.ok.frames)) kq (m := fun y => if y = ".0" then some (.ref it) else none) ?_ (q.os.trans rfl) q.bare fun p hp => ?_
    · rw [q.heap]
      exact hn'.push _
    · rw [List.mem_singleton.mp hp]
      refine ⟨by rw [q.heap]; exact Heap.get?_push_size _ (by rw [← hgo]; rfl), by show s3.heap.objs.size < h'.objs.size; rw [hsz]; exact Nat.lt_succ_self _, fun v z => ?_⟩
      rw [← hgo] at z
      cases z
  refine ⟨I2.nolimit, ?_⟩
  cases hf : codeAmong gpos ps.toList with
  | none =>
    refine wpAny_genexprCodeX hcode (cd.code hPs ht) (cd.tab hPs) hf fun c' h' tk hx hge hlt hco' _ htab' _ => ?_
    obtain ⟨o1, vs, f1, tf, fl, tg', inF, tx, tt, op, _, _, _, _, _, _, _, _, _, htr, _⟩ := hco'
    exact cont _ h' tk _ hx htab'.2 ⟨_, rfl⟩ htr
  | some cv =>
    refine wpAny_genexprCode_hit hcode (cd.code hPs ht) hf ?_
    exact cont cv s2.heap s2.toks ps (Heap.ExtBut.refl _ _) hPs ⟨#[], by simp⟩ ht
end
end AL
set_option Elab.async false
set_option linter.all false
set_option maxRecDepth 100000
set_option maxHeartbeats 4000000
namespace AL
open PySem PySem.Spec PyProof.Rows L2
open GxR (TabB TabG Tabbed inv_tab sh_eta)

theorem wipe_back {vs : List Nat} {σ0 σ : L2.St} (h : wipe σ vs = σ0) : σ.length = σ0.length ∧ ∀ (i : Nat) v, σ0[i]? = some (some v) → σ[i]? = some (some v) := by
  subst h
  exact ⟨(wipe_length _ _).symm, fun i v e => (wipe_some e).1⟩

/-- all(e for x in it) (d = false), any(..) (d = true): by an invariant over (turn, turns that may follow, heap) -/
def tQuant (K : PySem.W.Frag) (P : Addr) (d : Bool) (wi : TI) (g : TG) (te : TE) (vs : List Nat) : TE := fun σ H Q => wi σ H fun J H1 => TabG H1 P ∧ ∀ H2, Tabbed P H1 H2 →
  ∃ W : Nat → Nat → Hp → Prop, (∃ m, W 0 m H2) ∧ W1 K J g te (wipe σ vs) vs d (Q (.bl (!d))) (Q (.bl d)) W
section
variable {X : Cx} {c P : Addr} {elt tg iter : Expr} {scope : Scope} {own : List (Str × Nat)} {p pos gpos : Pos} {wi : TI} {g : TG} {te : TE} {k : Nat}
theorem gen_one {pins : List (Addr × Obj)} {σ : L2.St} {H : Hp} {s : Shared} {d : Bool} {Q : V → Hp → Prop} {Q' : Value → Shared → Prop}
    (hr : Room (k + 1) X.A) (hc : X.calm = true) (hN : X.N.Nodup) (TB : TabB X.base X.mg c P) (hcode : X.env.code = .ref c) (ok : GOk X.N X.env.scope scope own) (hi : PI X tg iter wi) (hs : ∀ v, genFold iter X.env v = pure v)
    (hg : ∀ (s : Shared) (H : Hp) (C : Addr) (cl : List (Str × Addr)) (code : Value) (fp : List Addr) (A : Around) (pn : List (Addr × Obj)), PG (gcx X s H (genEnv scope cl C code builtinsNs X.env) fp A pn) tg g)
    (he : ∀ (s : Shared) (H : Hp) (C : Addr) (cl : List (Str × Addr)) (code : Value) (fp : List Addr) (A : Around) (pn : List (Addr × Obj)), Room k A → PE (gcx X s H (genEnv scope cl C code builtinsNs X.env) fp A pn) elt te)
    (I : Inv X pins σ H s) (h : tQuant X.K P d wi g te (own.map (·.2)) σ H Q)
    (hQ : ∀ (a : Addr) (g0 n : Nat) (s5 : Shared), GAt X.prog X.w X.A.in1.in1 a g0 d (fun s => ∃ H', Inv X pins σ H' s ∧ Q (.bl (!d)) H') (fun s => ∃ H', Inv X pins σ H' s ∧ Q (.bl d) H') n s5 → Q' (.ref a) s5) :
    wpAny (model X.prog X.w) X.A (eval (.GeneratorExp elt [⟨tg, iter, [], 0⟩] scope gpos) X.env) Q' X.xe s := by
  refine gen_made (R := fun J H2 => ∃ W : Nat → Nat → Hp → Prop, (∃ m, W 0 m H2) ∧ W1 X.K J g te (wipe σ (own.map fun x : Str × Nat => x.2)) (own.map fun x : Str × Nat => x.2) d (Q (.bl (!d))) (Q (.bl d)) W) (d := d) (Q := Q)
    hr hc hN TB hcode ok hi hs I h (fun it fp tn J H3 s3 code a g0 go hR T hgen afp f3n back => ?_) hQ
  obtain ⟨W, ⟨m, w0⟩, w1⟩ := hR
  refine ⟨m + 1, fun s' I' st' => ?_⟩
  exact seg_one (X := gcx X s3 H3 (genEnv scope (cloFrom X.env.cells scope.names []) s3.heap.objs.size code builtinsNs X.env) fp (X.A.in1.in1.over (gcode elt [⟨tg, iter, [], 0⟩] scope gpos it (genEnv scope (cloFrom X.env.cells scope.names []) s3.heap.objs.size code builtinsNs X.env)) []) [(a, go)])
    (go := go) (QT := Q (.bl (!d))) (QF := Q (.bl d)) hgen (fun c e => by subst e; rfl) ok.co rfl hc (fun _ _ z => z) (List.mem_singleton.mpr rfl) (fun q hq b hb => by rw [List.mem_singleton.mp hq]; exact afp b hb) (fun b hb => hb)
    T (fun vσ hv => wipe_back hv) (hg _ _ _ _ _ _ _ _) (he _ _ _ _ _ _ _ _ (gcode_room hr)) w1 (fun H s I6 q => ⟨H, back H s I6, q⟩) (fun H s I6 q => ⟨H, back H s I6, q⟩) m (m + 1) 0 s' s' H3 (Nat.lt_succ_self m) w0 I' st' f3n
theorem pe_allG (hr : Room (k + 1) X.A) (hc : X.calm = true) (hN : X.N.Nodup) (hgl : Gl X "all") (hm : X.mg "all" = none) (TB : TabB X.base X.mg c P) (hcode : X.env.code = .ref c) (ok : GOk X.N X.env.scope scope own) (hi : PI X tg iter wi)
    (hg : ∀ (s : Shared) (H : Hp) (C : Addr) (cl : List (Str × Addr)) (code : Value) (fp : List Addr) (A : Around) (pn : List (Addr × Obj)), PG (gcx X s H (genEnv scope cl C code builtinsNs X.env) fp A pn) tg g)
    (he : ∀ (s : Shared) (H : Hp) (C : Addr) (cl : List (Str × Addr)) (code : Value) (fp : List Addr) (A : Around) (pn : List (Addr × Obj)), Room k A → PE (gcx X s H (genEnv scope cl C code builtinsNs X.env) fp A pn) elt te)
    (hs : ∀ v, genFold iter X.env v = pure v := by intro _; rfl) (hb : bootBuiltins "all" = some (.builtin "all") := by decide +kernel)
    (hst : starEach [.GeneratorExp elt [⟨tg, iter, [], 0⟩] scope gpos] X.env = (false, eval (.GeneratorExp elt [⟨tg, iter, [], 0⟩] scope gpos) X.env) :: starEach [] X.env := by rfl) :
    PE X (.Call (.Name "all" p) [.GeneratorExp elt [⟨tg, iter, [], 0⟩] scope gpos] [] pos) (tQuant X.K P false wi g te (own.map (·.2))) := by
  refine ⟨fun pins s σ H Q I h => ?_⟩
  refine wpAny_Call_Name_kw (ld_blt I hgl hm hb ?_)
  refine PyProof.Rows.callWith_builtin1 ?_ hst (by rfl)
  rw [hst]
  show wpAny _ _ (spliced ((false, eval (.GeneratorExp elt [⟨tg, iter, [], 0⟩] scope gpos) X.env) :: backTo pos (starEach [] X.env))) _ _ s
  refine Calls.spliced_cons (gen_one (Q := Q) hr hc hN TB hcode ok hi hs hg he I h fun a g0 n s5 hG => ?_)
  refine Calls.spliced_nil ?_
  refine call_all_gen hr.hd hr.depth hG (fun s₁ s' hT hb' ho k' => ?_) (fun s₁ s' hF q => ?_) fun s ⟨H', J, _⟩ => J.bare
  · obtain ⟨H', J, q'⟩ := hT
    exact ⟨.bl true, H', inv_ext J ho hb' k', rfl, q'⟩
  · obtain ⟨H', J, q'⟩ := hF
    exact ⟨.bl false, H', inv_quietly J q, rfl, q'⟩
theorem pe_anyG (hr : Room (k + 1) X.A) (hc : X.calm = true) (hN : X.N.Nodup) (hgl : Gl X "any") (hm : X.mg "any" = none) (TB : TabB X.base X.mg c P) (hcode : X.env.code = .ref c) (ok : GOk X.N X.env.scope scope own) (hi : PI X tg iter wi)
    (hg : ∀ (s : Shared) (H : Hp) (C : Addr) (cl : List (Str × Addr)) (code : Value) (fp : List Addr) (A : Around) (pn : List (Addr × Obj)), PG (gcx X s H (genEnv scope cl C code builtinsNs X.env) fp A pn) tg g)
    (he : ∀ (s : Shared) (H : Hp) (C : Addr) (cl : List (Str × Addr)) (code : Value) (fp : List Addr) (A : Around) (pn : List (Addr × Obj)), Room k A → PE (gcx X s H (genEnv scope cl C code builtinsNs X.env) fp A pn) elt te)
    (hs : ∀ v, genFold iter X.env v = pure v := by intro _; rfl) (hb : bootBuiltins "any" = some (.builtin "any") := by decide +kernel)
    (hst : starEach [.GeneratorExp elt [⟨tg, iter, [], 0⟩] scope gpos] X.env = (false, eval (.GeneratorExp elt [⟨tg, iter, [], 0⟩] scope gpos) X.env) :: starEach [] X.env := by rfl) :
    PE X (.Call (.Name "any" p) [.GeneratorExp elt [⟨tg, iter, [], 0⟩] scope gpos] [] pos) (tQuant X.K P true wi g te (own.map (·.2))) := by
  refine ⟨fun pins s σ H Q I h => ?_⟩
  refine wpAny_Call_Name_kw (ld_blt I hgl hm hb ?_)
  refine PyProof.Rows.callWith_builtin1 ?_ hst (by rfl)
  rw [hst]
  show wpAny _ _ (spliced ((false, eval (.GeneratorExp elt [⟨tg, iter, [], 0⟩] scope gpos) X.env) :: backTo pos (starEach [] X.env))) _ _ s
  refine Calls.spliced_cons (gen_one (Q := Q) hr hc hN TB hcode ok hi hs hg he I h fun a g0 n s5 hG => ?_)
  refine Calls.spliced_nil ?_
  refine call_any_gen hr.hd hr.depth hG (fun s₁ s' hT hb' ho k' => ?_) (fun s₁ s' hF q => ?_) fun s ⟨H', J, _⟩ => J.bare
  · obtain ⟨H', J, q'⟩ := hT
    exact ⟨.bl false, H', inv_ext J ho hb' k', rfl, q'⟩
  · obtain ⟨H', J, q'⟩ := hF
    exact ⟨.bl true, H', inv_quietly J q, rfl, q'⟩
end
end AL
set_option Elab.async false
set_option linter.all false
set_option maxRecDepth 100000
set_option maxHeartbeats 4000000
namespace AL
open PySem PySem.Spec PyProof.Rows L2
open GxR (TabB TabG Tabbed inv_tab sh_eta)

/-- the second clause's walk, from a turn of the first -/
structure W2in (K : PySem.W.Frag) (J : It) (g : TG) (te : TE) (σ1 : L2.St) (vs1 : List Nat) (d : Bool) (QF : Hp → Prop) (m : Nat) (Nx : Nat → Hp → Prop) (W : Nat → Nat → Hp → Prop) : Prop where
  turn : ∀ j n H, n ≤ m → W j n H → (J.stop j H ∧ ∃ n', n' < m ∧ n' ≤ n ∧ Nx n' H) ∨ (J.go j H ∧ ∀ x H', J.yld j H x H' → g x σ1 H' fun σ2 H2 => wipe σ2 vs1 = σ1 ∧ te σ2 H2 fun y H3 => ∃ b, y = .bl b ∧ (b = d → QF H3) ∧ (b ≠ d → ∃ n', n' < n ∧ W (j + 1) n' H3))
/-- two clauses: the outer invariant W; a turn's own -/
structure W2 (K : PySem.W.Frag) (J : It) (g : TG) (wi1 : TI) (g1 : TG) (te : TE) (σ0 : L2.St) (vs0 vs1 : List Nat) (d : Bool) (QT QF : Hp → Prop) (W : Nat → Nat → Hp → Prop) : Prop where
  turn : ∀ i m H, W i m H → (J.stop i H ∧ QT H) ∨ (J.go i H ∧ ∀ x H', J.yld i H x H' → g x σ0 H' fun σ1 H2 => wipe σ1 vs0 = σ0 ∧ wi1 σ1 H2 fun J1 H3 =>
    ∃ WI : Nat → Nat → Hp → Prop, (∃ n, n ≤ m ∧ WI 0 n H3) ∧ W2in K J1 g1 te σ1 vs1 d QF m (fun n' H => W (i + 1) n' H) WI)

section
variable {X : Cx} {a : Addr} {g0 : Nat} {d : Bool} {FinT FinF : Shared → Prop} {QT QF : Hp → Prop} {ce : Env} {fp : List Addr} {A : Around} {go : Obj}

/-- the second clause's loop -/
theorem seg_inner {elt t0 i0 tg iter : Expr} {scope : Scope} {pos ppos : Pos} {it0 it : Addr} {tn : Nat → Heap → Prop} {J : It} {g : TG} {te : TE} {σ1 : L2.St} {vs1 : List Nat} {W : Nat → Nat → Hp → Prop} {fp1 : List Addr} {pins : List (Addr × Obj)} {m : Nat} {Nx : Nat → Hp → Prop}
    {k : Result → Sem PySem.Fin} {hm : Option Value} {lv : List Value} {kp : List Value}
    (hgo : ∀ h : Heap, h.get? a = some go → h.IsGen a g0)
    (hXA : A.over (.compLoop (.GeneratorExp elt [⟨t0, i0, [], 0⟩, ⟨tg, iter, [], 0⟩] scope pos) 1 (.ref it) .none ce) [.ret k hm false lv (.compLoop (.GeneratorExp elt [⟨t0, i0, [], 0⟩, ⟨tg, iter, [], 0⟩] scope pos) 0 (.ref it0) .none ce) ppos kp] = X.A) (hco : ce.scope.isCoroutine = false)
    (henv : X.env = ce) (hcalm : X.calm = true) (hxe : ∀ e s, ¬ X.xe e s) (hpn : (a, go) ∈ X.pn)
    (T : Turn X.prog X.w X.K tg J fp1 it tn) (hg : PG X tg g) (he : PE X elt te) (w1 : W2in X.K J g te σ1 vs1 d QF m Nx W)
    (hF : ∀ H s, Inv X pins σ1 H s → QF H → FinF s) (n0 : Nat)
    (hk : ∀ (n' n : Nat) (s₀ s : Shared) (H : Hp), n' < m → n' < n → Nx n' H → Inv X pins σ1 H s → Seg (model X.prog X.w) A (GRA FinT) (GYA a g0 d FinF) n s₀ (.compLoop (.GeneratorExp elt [⟨t0, i0, [], 0⟩, ⟨tg, iter, [], 0⟩] scope pos) 0 (.ref it0) .none ce) (k (.ok .next)) [] s) :
    ∀ (m1 n j : Nat) (s₀ s : Shared) (H : Hp), m1 < n → m1 ≤ m → W j m1 H → Inv X pins σ1 H s → tn j s.heap → (∀ b ∈ fp1, FpOk X pins H b) →
      Seg (model X.prog X.w) A (GRA FinT) (GYA a g0 d FinF) n s₀ (.compLoop (.GeneratorExp elt [⟨t0, i0, [], 0⟩, ⟨tg, iter, [], 0⟩] scope pos) 1 (.ref it) .none ce)
        ((model X.prog X.w).den (.compLoop (.GeneratorExp elt [⟨t0, i0, [], 0⟩, ⟨tg, iter, [], 0⟩] scope pos) 1 (.ref it) .none ce)) [.ret k hm false lv (.compLoop (.GeneratorExp elt [⟨t0, i0, [], 0⟩, ⟨tg, iter, [], 0⟩] scope pos) 0 (.ref it0) .none ce) ppos kp] s := by
  intro m1
  induction m1 using Nat.strongRecOn with
  | _ m1 ih =>
    intro n j s₀ s H hmn hmm hW I st hfp
    show Seg _ A _ _ _ s₀ _ ((compTurn (.GeneratorExp elt [⟨t0, i0, [], 0⟩, ⟨tg, iter, [], 0⟩] scope pos) 1 (.ref it) .none ce).onRaise (fun x => do noteFrame x ce; theTreesLotGoes x)) _ s
    rw [ge2_in, Sem.onRaise_eq_wrap]
    refine seg_bind_wrap (wpAny_standAt ?_)
    rcases w1.turn j m1 H hmm hW with ⟨stop, n', h1, h2, nx⟩ | ⟨go', step⟩
    · refine seg_bind_wrap ?_
      rw [hXA]
      refine thn (T.done X rfl rfl rfl hcalm j pins s σ1 H _ I hfp st stop) fun r s1 ⟨hr, I1⟩ => ?_
      subst hr
      exact seg_leaf (.ok .next) (hk n' n s₀ s1 H h1 (by omega) nx I1)
    · refine seg_bind_wrap ?_
      rw [hXA]
      refine thn (T.item X rfl rfl rfl hcalm j pins s σ1 H _ I hfp st go') fun r s1 ⟨u, hr, h1⟩ => ?_
      subst hr
      refine seg_bind_wrap ?_
      rw [hXA]
      refine wpAny_mono h1 (fun _ s2 hh => ?_) fun _ _ z => z
      obtain ⟨x, H2, I2, r2, y2, st2, n2⟩ := hh
      have fp2 : ∀ b ∈ fp1, FpOk X pins H2 b := fun b hb => ⟨n2 b hb, (hfp b hb).2⟩
      have I2' := I2.pinned fp2 (T.obj _ _ st2)
      refine seg_bind_wrap ?_
      rw [hXA]
      have hgr := hg.run _ s2 σ1 H2 x u _ I2' r2 (step x H2 y2)
      rw [henv] at hgr
      refine wpAny_mono hgr (fun _ s4 ⟨σ4, H4, I4, hw4, q4⟩ => ?_) fun e s' z => (hxe e s' z).elim
      have hy : ∀ v, yieldOut ce v = yieldValue v := fun v => by simp only [yieldOut, hco, Bool.false_eq_true, if_false]
      simp only [hy]
      rw [Sem.bind_eq_wrap', Sem.bind_eq_wrap', Sem.wrap_wrap, Sem.wrap_wrap]
      refine seg_wrap ?_
      rw [hXA]
      have her := he.run _ s4 σ4 H4 _ I4 q4
      rw [henv] at her
      refine wpAny_mono her (fun yv s5 ⟨y, H5, I5, r5, b, hyb, qd, qn⟩ => ?_) fun e s' z => (hxe e s' z).elim
      subst hyb
      have r5 : yv = .bool b := r5
      subst r5
      have pin' : ∀ q ∈ fp1, ∀ o, s2.heap.get? q = some o → s5.heap.get? q = some o ∧ H5 q = none := fun q hb o e =>
        let z := I5.pin (q, o) (List.mem_append_right _ (List.mem_append_right _ (mem_pinsAt hb e)))
        ⟨z.1, z.2.1⟩
      obtain ⟨hl4, hv4⟩ := wipe_back hw4
      have I6 : Inv X pins σ1 H5 s5 := (I5.unpinned (pins := pins)).weak hl4.symm fun j v e => hv4 j v e
      have hgen : s5.heap.IsGen a g0 := hgo _ (I6.pin (a, go) (List.mem_append_left _ hpn)).1
      by_cases hbd : b = d
      · cases n with
        | zero => omega
        | succ n => exact seg_at (seg_yield rfl rfl rfl ⟨b, rfl, hgen, I6.nolimit, I6.bare, fun _ => hF H5 s5 I6 (qd hbd), fun z => absurd hbd z⟩)
      · obtain ⟨m', hm', w'⟩ := qn hbd
        cases n with
        | zero => omega
        | succ n =>
          refine seg_at (seg_yield rfl rfl rfl ⟨b, rfl, hgen, I6.nolimit, I6.bare, fun z => absurd z hbd, fun _ s' q => ?_⟩)
          refine seg_again rfl (ih m' hm' n (j + 1) s' s' H5 (by omega) (by omega) w' (inv_quietly I6 q) ?_ fun q' hb => ?_)
          · rw [q.heap]
            exact T.keep _ _ _ st2 fun q' hb o e => (pin' q' hb o e).1
          · obtain ⟨o, e, _⟩ := T.obj _ _ st2 q' hb
            exact ⟨(pin' q' hb o e).2, (hfp q' hb).2⟩
end
end AL
set_option Elab.async false
set_option linter.all false
set_option maxRecDepth 100000
set_option maxHeartbeats 4000000
namespace AL
open PySem PySem.Spec PyProof.Rows L2
open GxR (TabB TabG Tabbed inv_tab sh_eta)
section
variable {X : Cx} {a : Addr} {g0 : Nat} {d : Bool} {FinT FinF : Shared → Prop} {QT QF : Hp → Prop} {ce : Env} {fp : List Addr} {A : Around} {go : Obj}

theorem seg_start1 {P : Program} {w : World} {R : GenEnd} {Y : Protocol} {n : Nat} {s₀ s : Shared} {elt tg iter : Expr} {c0 : Comprehension} {scope : Scope} {pos : Pos} {it : Addr} {K : PySem.W.Frag} {J : It} {tn : Nat → Heap → Prop} {fs : List Frame} (T : Turn P w K tg J fp it tn) (st : tn 0 s.heap)
    (h : Seg (model P w) A R Y n s₀ (.compLoop (.GeneratorExp elt [c0, ⟨tg, iter, [], 0⟩] scope pos) 1 (.ref it) .none ce) ((model P w).den (.compLoop (.GeneratorExp elt [c0, ⟨tg, iter, [], 0⟩] scope pos) 1 (.ref it) .none ce)) fs s) :
    Seg (model P w) A R Y n s₀ (.compStart (.GeneratorExp elt [c0, ⟨tg, iter, [], 0⟩] scope pos) 1 (.ref it) .none ce) ((model P w).den (.compStart (.GeneratorExp elt [c0, ⟨tg, iter, [], 0⟩] scope pos) 1 (.ref it) .none ce)) fs s := by
  show Seg _ A _ _ _ s₀ _ ((compStart (.GeneratorExp elt [c0, ⟨tg, iter, [], 0⟩] scope pos) 1 (.ref it) .none ce).onRaise (fun x => do noteFrame x ce; standAt theWindowsPlace)) fs s
  unfold compStart
  rw [Sem.onRaise_eq_wrap]
  show Seg _ A _ _ _ s₀ _ ((ask >>= _).wrap _ _ _ _) fs s
  refine seg_bind_wrap (wpAny_askSetting ?_)
  split
  · exact seg_again rfl h
  · refine seg_bind_wrap (wpAny_rule ?_)
    show Seg _ A _ _ _ s₀ _ ((standAt iter.pos >>= _).wrap _ _ _ _) fs s
    exact seg_bind_wrap (wpAny_standAt (seg_bind_wrap (T.self _ 0 s _ _ st (seg_again rfl h))))

theorem seg_outer {elt tg iter tg1 iter1 : Expr} {scope : Scope} {pos : Pos} {it : Addr} {tn : Nat → Heap → Prop} {J : It} {g g1 : TG} {wi1 : TI} {te : TE} {σ0 : L2.St} {vs0 vs1 : List Nat} {W : Nat → Nat → Hp → Prop}
    (hgo : ∀ h : Heap, h.get? a = some go → h.IsGen a g0)
    (hXA : A.over (gcode elt [⟨tg, iter, [], 0⟩, ⟨tg1, iter1, [], 0⟩] scope pos it ce) [] = X.A) (hco : ce.scope.isCoroutine = false)
    (henv : X.env = ce) (hcalm : X.calm = true) (hxe : ∀ e s, ¬ X.xe e s) (hpn : (a, go) ∈ X.pn)
    (hpn2 : ∀ p ∈ X.pn, ∀ b ∈ fp, p.1 ≠ b) (hex : ∀ b ∈ fp, b ∈ X.ex)
    (T : Turn X.prog X.w X.K tg J fp it tn)
    (hg : PG X tg g) (hi1 : PI X tg1 iter1 wi1) (hs1 : ∀ v, foldedSetIterable iter1 ce v = pure v) (hg1 : PG X tg1 g1) (he : PE X elt te) (w2 : W2 X.K J g wi1 g1 te σ0 vs0 vs1 d QT QF W)
    (hT : ∀ H s, Inv X [] σ0 H s → QT H → FinT s) (hF : ∀ H s, Inv X [] σ0 H s → QF H → FinF s) :
    ∀ (m n i : Nat) (s₀ s : Shared) (H : Hp), m < n → W i m H → Inv X [] σ0 H s → tn i s.heap → (∀ b ∈ fp, H b = none) →
      Seg (model X.prog X.w) A (GRA FinT) (GYA a g0 d FinF) n s₀ (gcode elt [⟨tg, iter, [], 0⟩, ⟨tg1, iter1, [], 0⟩] scope pos it ce)
        ((model X.prog X.w).den (gcode elt [⟨tg, iter, [], 0⟩, ⟨tg1, iter1, [], 0⟩] scope pos it ce)) [] s := by
  have stat : ∀ {σ' : L2.St} {H' : Hp} {s' : Shared}, Inv X [] σ' H' s' → (∀ b ∈ fp, H' b = none) → ∀ b ∈ fp, FpOk X [] H' b := fun {σ' H' s'} I' hn b hb =>
    ⟨hn b hb, (I'.ok.exf b (hex b hb)).1, I'.ok.exfs b (hex b hb), .inl (hex b hb), fun x c e => (I'.ok.exf b (hex b hb)).2 x c e, fun p hp => by
      rcases List.mem_append.mp hp with z | z
      · exact hpn2 p z b hb
      · cases z⟩
  intro m
  induction m using Nat.strongRecOn with
  | _ m ih =>
    intro n i s₀ s H hmn hW I st hfp
    show Seg _ A _ _ _ s₀ _ ((compTurn (.GeneratorExp elt [⟨tg, iter, [], 0⟩, ⟨tg1, iter1, [], 0⟩] scope pos) 0 (.ref it) .none ce).onRaise (leaving ce)) [] s
    rw [ge2_out, Sem.onRaise_eq_wrap]
    refine seg_bind_wrap (wpAny_standAt ?_)
    rcases w2.turn i m H hW with ⟨stop, qt⟩ | ⟨go', step⟩
    · refine seg_bind_wrap ?_
      rw [hXA]
      refine thn (T.done X rfl rfl rfl hcalm i [] s σ0 H _ I (stat I hfp) st stop) fun r s1 ⟨hr, I1⟩ => ?_
      subst hr
      exact seg_end (.ok .next) ⟨rfl, hT H s1 I1 qt⟩
    · refine seg_bind_wrap ?_
      rw [hXA]
      refine thn (T.item X rfl rfl rfl hcalm i [] s σ0 H _ I (stat I hfp) st go') fun r s1 ⟨u, hr, h1⟩ => ?_
      subst hr
      refine seg_bind_wrap ?_
      rw [hXA]
      refine wpAny_mono h1 (fun _ s2 hh => ?_) fun _ _ z => z
      obtain ⟨x, H2, I2, r2, y2, st2, n2⟩ := hh
      have I2' := I2.pinned (stat I2 n2) (T.obj _ _ st2)
      refine seg_bind_wrap ?_
      rw [hXA]
      have hgr := hg.run _ s2 σ0 H2 x u _ I2' r2 (step x H2 y2)
      rw [henv] at hgr
      refine wpAny_mono hgr (fun _ s4 ⟨σ4, H4, I4, hw4, q4⟩ => ?_) fun e s' z => (hxe e s' z).elim
      refine seg_bind_wrap ?_
      rw [hXA]
      have hir := hi1.run _ s4 σ4 H4 _ I4 q4
      rw [henv] at hir
      refine wpAny_mono hir (fun xv s5 hx5 => ?_) fun e s' z => (hxe e s' z).elim
      refine seg_bind_wrap (wpAny_standAt ?_)
      refine seg_bind_wrap (wpAny_of_eq (hs1 xv) ?_)
      refine seg_bind_wrap ?_
      rw [hXA]
      refine wpAny_holding (wpAny_mono hx5 (fun itv s6 h6 => ?_) fun e s' z => (hxe e s' z).elim)
      obtain ⟨it1, fp1, tn1, J1, H6, e, I6, T1, st6, f6, WI, ⟨n1, hn1, w6⟩, wi⟩ := h6
      subst e
      obtain ⟨hl4, hv4⟩ := wipe_back hw4
      have weak0 : ∀ {H' s'}, Inv X ([] ++ pinsAt fp s2.heap) σ4 H' s' → Inv X [] σ0 H' s' := fun {H' s'} J => (J.unpinned (pins := [])).weak hl4.symm fun j v e => hv4 j v e
      refine seg_call fun ppos => ?_
      refine seg_start1 T1 st6 ?_
      refine seg_inner (fp1 := fp1) (m := m) (Nx := fun n' H => W (i + 1) n' H) (pins := [] ++ pinsAt fp s2.heap) hgo ((GenW.over_loop rfl rfl).trans hXA) hco henv hcalm hxe hpn T1 hg1 he wi (fun H s J q => hF H s (weak0 J) q) 0 (fun n' n2 s₀' s' H' h1 h2 nx J => ?_) n1 n 0 s₀ s6 H6 (by omega) hn1 w6 I6 st6 f6
      have pin' : ∀ q ∈ fp, ∀ o, s2.heap.get? q = some o → s'.heap.get? q = some o ∧ H' q = none := fun q hb o e =>
        let z := J.pin (q, o) (List.mem_append_right _ (List.mem_append_right _ (mem_pinsAt hb e)))
        ⟨z.1, z.2.1⟩
      refine seg_again rfl (ih n' h1 n2 (i + 1) s₀' s' H' h2 nx (weak0 J) (T.keep _ _ _ st2 fun q' hb o e => (pin' q' hb o e).1) fun q' hb => ?_)
      obtain ⟨o, e, _⟩ := T.obj _ _ st2 q' hb
      exact (pin' q' hb o e).2
end
end AL
set_option Elab.async false
set_option linter.all false
set_option maxRecDepth 100000
set_option maxHeartbeats 4000000
namespace AL
open PySem PySem.Spec PyProof.Rows L2
open GxR (TabB TabG Tabbed inv_tab sh_eta)
/-- all(e for x in a for y in b) -/
def tQuant2 (K : PySem.W.Frag) (P : Addr) (d : Bool) (wi : TI) (g : TG) (wi1 : TI) (g1 : TG) (te : TE) (vs vs0 vs1 : List Nat) : TE := fun σ H Q => wi σ H fun J H1 => TabG H1 P ∧ ∀ H2, Tabbed P H1 H2 →
  ∃ W : Nat → Nat → Hp → Prop, (∃ m, W 0 m H2) ∧ W2 K J g wi1 g1 te (wipe σ vs) vs0 vs1 d (Q (.bl (!d))) (Q (.bl d)) W
section
variable {X : Cx} {c P : Addr} {elt tg iter tg1 iter1 : Expr} {scope : Scope} {own : List (Str × Nat)} {p pos gpos : Pos} {wi wi1 : TI} {g g1 : TG} {te : TE} {k : Nat} {vs0 vs1 : List Nat}
theorem pe_allG2 (hr : Room (k + 1) X.A) (hc : X.calm = true) (hN : X.N.Nodup) (hgl : Gl X "all") (hm : X.mg "all" = none) (TB : TabB X.base X.mg c P) (hcode : X.env.code = .ref c) (ok : GOk X.N X.env.scope scope own) (hi : PI X tg iter wi)
    (hg : ∀ (s : Shared) (H : Hp) (C : Addr) (cl : List (Str × Addr)) (code : Value) (fp : List Addr) (A : Around) (pn : List (Addr × Obj)), PG (gcx X s H (genEnv scope cl C code builtinsNs X.env) fp A pn) tg g)
    (hi1 : ∀ (s : Shared) (H : Hp) (C : Addr) (cl : List (Str × Addr)) (code : Value) (fp : List Addr) (A : Around) (pn : List (Addr × Obj)), Room k A → PI (gcx X s H (genEnv scope cl C code builtinsNs X.env) fp A pn) tg1 iter1 wi1)
    (hg1 : ∀ (s : Shared) (H : Hp) (C : Addr) (cl : List (Str × Addr)) (code : Value) (fp : List Addr) (A : Around) (pn : List (Addr × Obj)), PG (gcx X s H (genEnv scope cl C code builtinsNs X.env) fp A pn) tg1 g1)
    (he : ∀ (s : Shared) (H : Hp) (C : Addr) (cl : List (Str × Addr)) (code : Value) (fp : List Addr) (A : Around) (pn : List (Addr × Obj)), Room k A → PE (gcx X s H (genEnv scope cl C code builtinsNs X.env) fp A pn) elt te)
    (hs : ∀ v, genFold iter X.env v = pure v := by intro _; rfl) (hs1 : ∀ (C : Addr) (cl : List (Str × Addr)) (code : Value) v, foldedSetIterable iter1 (genEnv scope cl C code builtinsNs X.env) v = pure v := by intro _ _ _ _; rfl) (hb : bootBuiltins "all" = some (.builtin "all") := by decide +kernel)
    (hst : starEach [.GeneratorExp elt [⟨tg, iter, [], 0⟩, ⟨tg1, iter1, [], 0⟩] scope gpos] X.env = (false, eval (.GeneratorExp elt [⟨tg, iter, [], 0⟩, ⟨tg1, iter1, [], 0⟩] scope gpos) X.env) :: starEach [] X.env := by rfl) :
    PE X (.Call (.Name "all" p) [.GeneratorExp elt [⟨tg, iter, [], 0⟩, ⟨tg1, iter1, [], 0⟩] scope gpos] [] pos) (tQuant2 X.K P false wi g wi1 g1 te (own.map (·.2)) vs0 vs1) := by
  refine ⟨fun pins s σ H Q I h => ?_⟩
  refine wpAny_Call_Name_kw (ld_blt I hgl hm hb ?_)
  refine PyProof.Rows.callWith_builtin1 ?_ hst (by rfl)
  rw [hst]
  show wpAny _ _ (spliced ((false, eval (.GeneratorExp elt [⟨tg, iter, [], 0⟩, ⟨tg1, iter1, [], 0⟩] scope gpos) X.env) :: backTo pos (starEach [] X.env))) _ _ s
  refine Calls.spliced_cons (gen_made (own := own) (R := fun J H2 => ∃ W : Nat → Nat → Hp → Prop, (∃ m, W 0 m H2) ∧ W2 X.K J g wi1 g1 te (wipe σ (own.map fun x : Str × Nat => x.2)) vs0 vs1 false (Q (.bl (!false))) (Q (.bl false)) W) (d := false) (Q := Q)
    hr hc hN TB hcode ok hi hs I h (fun it fp tn J H3 s3 code a g0 go hR T hgen afp f3n back => ?_) fun a g0 n s5 hG => ?_)
  · obtain ⟨W, ⟨m, w0⟩, w1⟩ := hR
    refine ⟨m + 1, fun s' I' st' => ?_⟩
    exact seg_outer (X := gcx X s3 H3 (genEnv scope (cloFrom X.env.cells scope.names []) s3.heap.objs.size code builtinsNs X.env) fp (X.A.in1.in1.over (gcode elt [⟨tg, iter, [], 0⟩, ⟨tg1, iter1, [], 0⟩] scope gpos it (genEnv scope (cloFrom X.env.cells scope.names []) s3.heap.objs.size code builtinsNs X.env)) []) [(a, go)])
      (go := go) (QT := Q (.bl (!false))) (QF := Q (.bl false)) hgen rfl ok.co rfl hc (fun _ _ z => z) (List.mem_singleton.mpr rfl) (fun q hq b hb => by rw [List.mem_singleton.mp hq]; exact afp b hb) (fun b hb => hb)
      T (hg _ _ _ _ _ _ _ _) (hi1 _ _ _ _ _ _ _ _ (gcode_room hr)) (hs1 _ _ _) (hg1 _ _ _ _ _ _ _ _) (he _ _ _ _ _ _ _ _ (gcode_room hr)) w1 (fun H s I6 q => ⟨H, back H s I6, q⟩) (fun H s I6 q => ⟨H, back H s I6, q⟩) m (m + 1) 0 s' s' H3 (Nat.lt_succ_self m) w0 I' st' f3n
  refine Calls.spliced_nil ?_
  refine call_all_gen hr.hd hr.depth hG (fun s₁ s' hT hb' ho k' => ?_) (fun s₁ s' hF q => ?_) fun s ⟨H', J, _⟩ => J.bare
  · obtain ⟨H', J, q'⟩ := hT
    exact ⟨.bl true, H', inv_ext J ho hb' k', rfl, q'⟩
  · obtain ⟨H', J, q'⟩ := hF
    exact ⟨.bl false, H', inv_quietly J q, rfl, q'⟩
end
end AL
set_option Elab.async false
set_option linter.all false
set_option maxRecDepth 100000
set_option maxHeartbeats 4000000
namespace AL
open PySem PySem.Spec PyProof.Rows L2
open PySem.Froz (SD sObj tailTx addTx TxOk add_x add_ok)

/-- the payload can be walked -/
def WalkOk (w : World) (D : SD) : Prop := Ris D.2.2.place.toList ∧ (w.params.followText "set-order" = true ∨ D.2.2.led = true)
theorem walk_tail {w : World} {ep : Nat} {es1 : Array (Int × Value)} {t2 : SetTable} {b : Bool} (h1 : Ris t2.place.toList) (h2 : w.params.followText "set-order" = true ∨ t2.led = true) : WalkOk w (tailTx ep es1 t2 b) := by
  unfold tailTx
  split
  · exact ⟨relayAll_ris _ _ _, h2.imp id fun z => by rw [relayAll_led]; exact z⟩
  · exact ⟨h1, h2⟩
theorem walk_add {w : World} {D : SD} (h : Int) (v : Value) (W : WalkOk w D) : WalkOk w (addTx h v D) := by
  obtain ⟨W1, W2⟩ := W
  have r1 := layNew_ris D.2.2 D.1 h v W1
  have r2 : w.params.followText "set-order" = true ∨ (layNew D.2.2 D.1 h v).2.1.led = true := W2.imp id fun z => by rw [layNew_led]; exact z
  unfold addTx
  refine walk_tail ?_ ?_
  · split <;> exact r1
  · split <;> exact r2
/-- a set of texts at S: the texts l, each once -/
def SetS (P : Program) (w : World) (h : Heap) (S : Addr) (l : List Str) : Prop := ∃ D : SD, h.get? S = some (sObj "set" D) ∧ TxOk P w D l ∧ WalkOk w D ∧ l.Nodup
section
variable {P : Program} {w : World} {A : Around} {E : Value → Shared → Prop} {s : Shared}
theorem SetS.at {h h' : Heap} {S : Addr} {l : List Str} (R : SetS P w h S l) (k : ∀ o, h.get? S = some o → h'.get? S = some o) : SetS P w h' S l := by
  obtain ⟨D, a, b⟩ := R
  exact ⟨D, k _ a, b⟩
theorem setS_fresh {h : Heap} {S : Addr} (ho : h.get? S = some { cls := .type "set", dict := none, data := .set #[] 0 (.fresh 0 0 (!w.params.followText "set-order")) }) : SetS P w h S [] := by
  refine ⟨(#[], 0, .fresh 0 0 (!w.params.followText "set-order")), ho, Froz.TxOk.nil (by rfl), ⟨List.Pairwise.nil, ?_⟩, List.nodup_nil⟩
  show _ ∨ (!w.params.followText "set-order") = true
  cases w.params.followText "set-order"
  · exact .inr rfl
  · exact .inl rfl
/-- a text is put into it -/
theorem setS_add {a : Addr} {l : List Str} {k : Str} {u : Tok} {Q : Bool → Shared → Prop} (R : SetS P w s.heap a l) (hb : l.length + 1 < scanBound)
    (h : ∀ h' b, Heap.SameBut a s.heap h' → SetS P w h' a (if k ∈ l then l else k :: l) → Q b { s with heap := h' }) : wpAny (model P w) A (setAddHashed a (.str k u) (hashStr w k)) Q E s := by
  obtain ⟨D, ho, T, W, nd⟩ := R
  by_cases hk : k ∈ l
  · rw [if_pos hk] at h
    have goal := h s.heap false (Heap.SameBut.refl a s.heap) ⟨D, ho, T, W, nd⟩
    obtain ⟨es, ep, t⟩ := D
    have hkey : (strKind P w).is k (.str k u) = true := Froz.is_str k u
    have hsz : es.size = l.length := T.sz
    unfold setAddHashed setAddHashedIn
    refine wpAny_holding (wpAny_bind (wpAny_setState_of ho rfl T.fit ?_))
    dsimp only
    rw [byScan_of (x := Value.str k u) rfl (show es.size < scanBound by have : es.size = l.length := T.sz; omega) T.el]
    simp only [↓reduceIte]
    unfold setAddByScan
    refine wpAny_bind (wpAny_bind (wpAny_rule (wpAny_bind (wpAny_setScan_of (knd := strKind P w) (k := k) hkey ho rfl T.fit T.el ?_))))
    cases hfi : List.findIdx? (fun e => (strKind P w).is k e.2) es.toList with
    | none =>
      obtain ⟨e, he, q⟩ := (T.mem k).mp hk
      have c := List.findIdx?_eq_none_iff.mp hfi e he
      rw [q] at c
      cases c
    | some j =>
      dsimp only
      exact wpAny_pure (wpAny_pure goal)
  · rw [if_neg hk] at h
    refine add_x ho T hk hb (h _ true (Heap.SameBut.update s.heap a _) ⟨_, Froz.get_upd _ ho rfl, add_ok u T, walk_add _ _ W, List.nodup_cons.mpr ⟨hk, nd⟩⟩)
/-- what the loop has taken in -/
def took : List Str → List Str → List Str
  | [], l => l
  | k :: r, l => took r (if k ∈ l then l else k :: l)
theorem took_mem : ∀ (ss l : List Str) (k : Str), k ∈ took ss l ↔ k ∈ ss ∨ k ∈ l
  | [], l, k => by simp [took]
  | x :: r, l, k => by
    unfold took
    rw [took_mem r _ k, List.mem_cons]
    by_cases hx : x ∈ l
    · rw [if_pos hx]
      constructor
      · rintro (h | h)
        · exact .inl (.inr h)
        · exact .inr h
      · rintro ((h | h) | h)
        · exact .inr (h ▸ hx)
        · exact .inl h
        · exact .inr h
    · rw [if_neg hx, List.mem_cons]
      constructor
      · rintro (h | h | h)
        · exact .inl (.inr h)
        · exact .inl (.inl h)
        · exact .inr h
      · rintro ((h | h) | h)
        · exact .inr (.inl h)
        · exact .inl h
        · exact .inr (.inr h)
theorem took_len : ∀ (ss l : List Str), (took ss l).length ≤ ss.length + l.length
  | [], l => by simp [took]
  | x :: r, l => by
    unfold took
    have := took_len r (if x ∈ l then l else x :: l)
    split at this <;> split <;> simp only [List.length_cons] at * <;> first | omega | contradiction
theorem update_loop {I : Addr} {fp wr : List Addr} {G : Array GenState → Array GenState → Prop} {n : Nat} {Pv : Nat → Value → Prop} {St : Nat → Shared → Prop} {R : Result → Shared → Prop}
    (W : WalksS P w A.in1 I fp wr G n Pv St) (S : Addr) (hSf : S ∉ fp) (ss : List Str) (hn : n = ss.length) (hval : ∀ i v, Pv i v → ∃ k t, ss[i]? = some k ∧ v = .str k t) :
    ∀ (k i : Nat) (s : Shared) (l : List Str), n - i = k → i ≤ n → St i s → SetS P w s.heap S l → l.length + k + 1 < scanBound →
      (∀ s', Moved (S :: wr) G s s' → SetS P w s'.heap S (took (ss.drop i) l) → R (.ok (.ret .none)) s') →
      codeAny (model P w) A (.builtin "set.update.loop" ⟨[.ref S, .ref I], []⟩) R s := by
  have hSw : S ∉ wr := fun h => hSf (W.sub _ h)
  have hsub : ∀ b ∈ wr, b ∈ S :: wr := fun b hb => List.mem_cons_of_mem _ hb
  intro k
  induction k with
  | zero =>
    intro i s l hk hi hst hS _ hR
    obtain rfl : i = n := by omega
    refine codeAny_builtin F.entry_set_update_loop ?_
    rw [Around.under_plainId F.plain_set_update_loop _]
    show wpAny _ A.in1 (pyNext (.ref I) >>= _) _ _ s
    refine wpAny_bind (W.done s _ _ hst fun s' hm => wpAny_pure (hR s' (hm.mono hsub) ?_))
    rw [List.drop_of_length_le (by omega)]
    exact hS.at fun o e => hm.heap S o hSw e
  | succ k ih =>
    intro i s l hk hi hst hS hb hR
    have hlt : i < n := by omega
    refine codeAny_builtin F.entry_set_update_loop ?_
    rw [Around.under_plainId F.plain_set_update_loop _]
    show wpAny _ A.in1 (pyNext (.ref I) >>= _) _ _ s
    refine wpAny_bind (W.item i s _ _ hlt hst fun v s' hP hst' hm => ?_)
    obtain ⟨z, t, hz, rfl⟩ := hval i v hP
    have hS' : SetS P w s'.heap S l := hS.at fun o e => hm.heap S o hSw e
    show wpAny _ A.in1 (holding [Value.str z t] (setAdd S (.str z t)) >>= _) _ _ s'
    refine wpAny_bind (wpAny_holding ?_)
    unfold setAdd
    refine wpAny_holding (wpAny_bind ((strKind P w).pyHash (k := z) (Froz.is_str z t) ?_))
    refine setS_add (s := { s' with toks := s'.toks + 1 }) hS' (by omega) fun h' b hsb hS2 => ?_
    have hd : ss.drop i = z :: ss.drop (i + 1) := by
      obtain ⟨h1, h2⟩ := List.getElem?_eq_some_iff.mp hz
      rw [List.drop_eq_getElem_cons h1, h2]
    refine wpAny_pure ⟨plainId_quiet F.plain_set_update_loop _, ih (i + 1) _ _ (by omega) hlt (W.frame _ s' _ _ hst' (Nat.le_succ _) fun b hb o e => ?_) hS2 ?_ fun s'' hm'' hS'' => ?_⟩
    · rw [hsb.2 b (fun h : b = S => hSf (by rw [← h]; exact hb))]; exact e
    · split <;> (try simp only [List.length_cons]) <;> omega
    · refine hR s'' (Moved.trans W.gtrans ((hm.mono hsub).then_heap (Nat.le_succ _) fun b o hb e => ?_) hm'') ?_
      · rw [hsb.2 b (fun h : b = S => hb (by rw [h]; exact List.mem_cons_self))]; exact e
      · rw [hd]
        exact hS''
end
end AL
set_option Elab.async false
set_option linter.all false
set_option maxRecDepth 100000
set_option maxHeartbeats 4000000
namespace AL
open PySem PySem.Spec PyProof.Rows L2
open PySem.Froz (SD sObj tailTx addTx TxOk add_x add_ok)
section
variable {P : Program} {w : World} {A : Around} {E : Value → Shared → Prop} {s : Shared}
abbrev setObj0 (w : World) : Obj := { cls := .type "set", dict := none, data := .set #[] 0 (.fresh 0 0 (!w.params.followText "set-order")) }
theorem call_setS {l : Addr} {items : Array Value} {ss : List Str} {Q : Value → Shared → Prop} (hh : A.handled = none) (hl : s.heap.IsList l items) (hit : StrsAre items.toList ss) (hb : ss.length + 1 < scanBound)
    (h : ∀ (h' : Heap) (tk : Nat), SetS P w h' s.heap.objs.size (took ss []) → (∀ b o, s.heap.get? b = some o → h'.get? b = some o) → Q (.ref s.heap.objs.size) { s with heap := h', toks := tk }) :
    wpAny (model P w) A (call (.type "set") [.ref l]) Q E s := by
  have hisz : items.size = ss.length := by
    have q := StrsAre.length hit
    rw [Array.length_toList] at q
    exact q
  have hval : ∀ (i : Nat) (v : Value), items[i]? = some v → ∃ k t, ss[i]? = some k ∧ v = .str k t := fun i v hv => by
    have hi : i < ss.length := by rw [← hisz]; exact (Array.getElem?_eq_some_iff.mp hv).1
    obtain ⟨t, e⟩ := SS.strs_at hit i v (by rw [Array.getElem?_toList]; exact hv)
    refine ⟨ss[i], t, List.getElem?_eq_getElem hi, ?_⟩
    rw [e, List.getD_eq_getElem?_getD, List.getElem?_eq_getElem hi] <;> rfl
  obtain ⟨c, tl, hmro⟩ := F.called_set.mro
  have hmade := F.called_set.made
  have hsub := F.called_set.sub
  refine wpAny_call (codeAny_of_tree ?_)
  show wpAny _ _ (callAny (.type "set") _) _ _ _
  refine wpAny_pure ⟨Code.quiet_builtin _ (by decide +kernel), codeAny_builtin F.entry_type_call ?_⟩
  rw [Around.under_plain (weight_type_call_type "set" [.ref l] []) rfl]
  have h1 := F.called_set.notType
  have h2 := F.called_set.canCreate
  have hct := F.typeCall_set_1 (.ref l)
  repeat (any_goals (first | assumption | wp_step))
  refine codeAny_mono (code_set_led1 (.ref l) (E := E) (Q₁ := fun obj s₁ => obj = .ref s.heap.objs.size ∧ s₁ = { s with heap := s.heap.push (setObj0 w) }) ⟨rfl, rfl⟩) fun r s₁ hr => ?_
  cases r with
  | error e => exact hr
  | ok fl =>
    cases fl with
    | ret obj =>
      obtain ⟨rfl, rfl⟩ := hr
      have hS : (s.heap.push (setObj0 w)).get? s.heap.objs.size = some (setObj0 w) := Heap.get?_push_size _ rfl
      have hT : Shared.TypeIs { s with heap := s.heap.push (setObj0 w) } (.ref s.heap.objs.size) "set" := ⟨_, hS, rfl⟩
      have hli := F.called_set.init.lookup
      have hbi := F.called_set.init.bind (.ref s.heap.objs.size)
      repeat (any_goals (first | assumption | wp_step))
      refine codeAny_mono (codeAny_call_builtin (R := wants (fun r s₂ => r = .none ∧ ∃ h' tk, s₂ = { s with heap := h', toks := tk } ∧ SetS P w h' s.heap.objs.size (took ss []) ∧
          (∀ b o, s.heap.get? b = some o → h'.get? b = some o)) E) F.called_set.init.plain F.entry_set_init (check_set_init_1 hT ?_)) fun r₂ s₂ hr₂ => ?_
      · obtain ⟨ol, hol, hcl, nl, hdl⟩ := hl
        obtain ⟨ocls, odict, odata, oslots⟩ := ol
        simp only at hcl hdl
        subst hcl; subst hdl
        have hol' : (s.heap.push (setObj0 w)).get? l = some { cls := .type "list", dict := odict, data := .seq items nl, slots := oslots } := Heap.get?_push_of_some _ hol
        have hsls := F.sub_list_set
        have hslf := F.sub_list_frozenset
        have hne : (Value.type "list" == Value.type "dict") = false := by decide
        have hl1 : (s.heap.push (setObj0 w)).IsList l items := ⟨_, hol', rfl, nl, rfl⟩
        unfold Builtin.«set.__init__» noKeywords Builtin.Frozenset.updateFrom
        generalize hPI : pyIter = PI
        wp_walk
        subst hPI
        refine wpAny_pyIter_list hl1 ?_
        refine wpAny_bind (wpAny_runValue ?_)
        have hlS : l < s.heap.objs.size := Heap.lt_size hol
        have hh3 : A.in1.in1.in1.handled = none := by simp [hh]
        have hneI : l ≠ (s.heap.push (setObj0 w)).objs.size := by
          rw [Heap.size_push]; exact Nat.ne_of_lt (Nat.lt_succ_of_lt hlS)
        have hSf : s.heap.objs.size ∉ [(s.heap.push (setObj0 w)).objs.size, l] := by
          rw [Heap.size_push]; simp only [List.mem_cons, List.mem_singleton, List.not_mem_nil, or_false, not_or]
          exact ⟨Nat.ne_of_lt (Nat.lt_succ_self _), Nat.ne_of_gt hlS⟩
        refine update_loop ((Walks.list hh3 _ l hneI items).toS) s.heap.objs.size
          hSf ss hisz hval (items.size - 0) 0 _ [] (by omega) (Nat.zero_le _)
          ⟨⟨_, Heap.get?_push_size _ rfl, rfl, rfl⟩, (hl1.push _)⟩ (setS_fresh (Heap.get?_push_of_some _ hS)) (by rw [hisz]; simp only [List.length_nil]; omega) fun s' hm hS' => ?_
        obtain ⟨h', g2, d', tk', os'⟩ := s'
        have eg : g2 = s.gens := hm.gens
        have ed : d' = s.drawn := hm.drawn
        have eo : os' = s.os := hm.os
        subst eg; subst ed; subst eo
        show wpAny _ _ _ _ _ _
        refine wpAny_pure ?_
        show wpAny _ _ (ret Value.none) _ _ _
        refine wpAny_pure ⟨rfl, h', tk', rfl, hS', fun b o e => ?_⟩
        have hb0 : b < s.heap.objs.size := Heap.lt_size e
        have hb2 : b ≠ (s.heap.push (setObj0 w)).objs.size := by
          rw [Heap.size_push]; exact Nat.ne_of_lt (Nat.lt_succ_of_lt hb0)
        exact hm.heap b o (by simp only [List.mem_cons, List.mem_singleton, List.not_mem_nil, or_false, not_or]; exact ⟨Nat.ne_of_lt hb0, hb2⟩) (Heap.get?_push_of_some _ (Heap.get?_push_of_some _ e))
      · cases r₂ with
        | error e => exact hr₂
        | ok fl₂ =>
          cases fl₂ with
          | ret r =>
            obtain ⟨rfl, h', tk, rfl, hS', hk'⟩ := hr₂
            repeat (any_goals (first | assumption | wp_step))
            exact h _ _ hS' hk'
          | _ => exact hr₂.elim
    | _ => exact hr.elim
end
end AL
set_option Elab.async false
set_option linter.all false
set_option maxRecDepth 100000
set_option maxHeartbeats 4000000
namespace AL
open PySem PySem.Spec PyProof.Rows L2
open PySem.Froz (SD sObj tailTx addTx TxOk add_x add_ok)
/-- a list without doubles, within another of no more items: the same items -/
theorem perm_of_sub : ∀ (l m : List Str), l.Nodup → (∀ k ∈ l, k ∈ m) → m.length ≤ l.length → l.Perm m
  | [], m, _, _, h => by
    have : m = [] := List.length_eq_zero_iff.mp (by simpa using h)
    rw [this]
  | x :: l, m, nd, hs, h => by
    have hx : x ∈ m := hs x List.mem_cons_self
    have hp : m.Perm (x :: m.erase x) := List.perm_cons_erase hx
    have hnd := List.nodup_cons.mp nd
    refine List.Perm.trans (List.Perm.cons x (perm_of_sub l (m.erase x) hnd.2 (fun k hk => ?_) ?_)) hp.symm
    · have hk' := hp.mem_iff.mp (hs k (List.mem_cons_of_mem _ hk))
      rcases List.mem_cons.mp hk' with e | e
      · exact absurd (e ▸ hk) hnd.1
      · exact e
    · have := hp.length_eq
      simp only [List.length_cons] at this h
      omega
section
variable {P : Program} {w : World} {A : Around} {E : Value → Shared → Prop} {s : Shared}
theorem sorted_setS {a : Addr} {l : List Str} {Q : Value → Shared → Prop} (R : SetS P w s.heap a l) (hh : A.handled = none) (h64 : l.length < 64)
    (hQ : ∀ s' p (out : Array Value) (c : Nat) (ys : List Str), (∀ b o, s.heap.get? b = some o → s'.heap.get? b = some o) → s'.gens = s.gens → s'.os = s.os → s.heap.objs.size ≤ p →
      s'.heap.get? p = some (seqObj "list" out c) → StrsAre out.toList ys → ys.Perm l → sortedS ys = true → Q (.ref p) s') :
    wpAny (model P w) A (call (.builtin "sorted") [.ref a]) Q E s := by
  obtain ⟨⟨es, ep, t⟩, ho, T, ⟨W1, W2⟩, nd⟩ := R
  have hsz : es.size = l.length := T.sz
  have hb : es.size < scanBound := by unfold scanBound; omega
  refine Calls.call_function_entry kind_sorted plain_sorted entry_sorted (args_sorted1 _) ?_
  unfold Builtin.«sorted»
  refine wpAny_bind (m := checkCount "sorted" 1 1 _) (wpAny_pure ?_)
  refine wpAny_bind (collect_set (A := A.in1) hh ⟨_, ho, rfl, rfl⟩ T.fit hb W1 W2 fun s1 vs k1 hz g1 o1 pm => ?_)
  have hvl : vs.length = l.length := by rw [pm.length_eq, List.length_map, Array.length_toList]; exact hsz
  have hstr : ∀ v ∈ vs, ∃ x t, v = Value.str x t := fun v hv => by
    obtain ⟨e, he, q⟩ := List.mem_map.mp (pm.mem_iff.mp hv)
    obtain ⟨⟨k, hk, _⟩, _⟩ := T.el e he
    obtain ⟨tk, z⟩ := Value.isStrOf_shape (x := k) (v := e.2) hk
    exact ⟨k, tk, by rw [← q]; exact z⟩
  have hS : StrsAre vs (vs.map strOf) := strsAre_map vs hstr
  have hperm : l.Perm (vs.map strOf) := by
    refine perm_of_sub l _ nd (fun k hk => ?_) (by rw [List.length_map, hvl]; exact Nat.le_refl _)
    obtain ⟨e, he, q⟩ := (T.mem k).mp hk
    obtain ⟨tk, z⟩ := Value.isStrOf_shape (x := k) (v := e.2) q
    refine List.mem_map.mpr ⟨e.2, pm.mem_iff.mpr (List.mem_map.mpr ⟨e, he, rfl⟩), ?_⟩
    rw [z] <;> rfl
  refine wpAny_bind (wpAny_newList ?_ (by rw [hvl, sizeLine_eq]; omega))
  have hoL : (s1.heap.push (seqObj "list" vs.toArray 0)).get? s1.heap.objs.size = some (seqObj "list" vs.toArray 0) := Heap.get?_push_size _ rfl
  refine wpAny_bind (wpAny_holding (wpAny_call_entry slot_list_sort ⟨_, hoL, rfl⟩ entry_list_sort
    (list_sort_treeK strKind_oneLt hoL hS.keysOf (fun v₁ v₂ rest e => keyKind_strs (by rw [← e]; exact hS)) (by rw [hvl]; exact h64) fun st' hp hs => ⟨_, rfl, ?_⟩) (args_list_sort _)))
  obtain ⟨ys, g3, g4, g5⟩ := sorted_out_str hS hp hs
  obtain ⟨c, hc⟩ := sortedHeap_at (vs := vs) (out := (arrOf st').map (·.2)) hoL
  refine wpAny_pure ⟨_, rfl, hQ _ s1.heap.objs.size _ c ys (fun b u e => ?_) g1 o1 hz hc g3 (g4.trans hperm.symm) g5⟩
  have q := k1 b u e
  have hlt := Heap.lt_size q
  show (sortedHeap (s1.heap.push (seqObj "list" vs.toArray 0)) s1.heap.objs.size vs _).get? b = some u
  rw [sortedHeap_old (Nat.ne_of_lt hlt) (by rw [size_push']; exact Nat.lt_succ_of_lt hlt)]
  exact Heap.get?_push_of_some _ q
end
section
variable {X : Cx}
/-- sorted(set(e)), e a list of texts, fewer than 64: each once, in order -/
def tSortSet (K : PySem.W.Frag) (ta : TE) : TE := fun σ H Q => ta σ H fun x H1 => ∃ (l : Addr) (xs : List Str), x = .ref l ∧ SqL K H1 l (xs.map V.str) ∧ xs.length < 64 ∧
  ∀ (ys : List Str) (p : Addr), sortedS ys = true → ys.Nodup → (∀ k, k ∈ ys ↔ k ∈ xs) → H1 p = none → Q (.ref p) (upd H1 p (.lst (ys.map V.str)))
theorem pe_sortSet {a : Expr} {ta : TE} {p p2 q pos : Pos} (hc : X.calm = true) (hg : Gl X "sorted") (hm : X.mg "sorted" = none) (hg2 : Gl X "set") (hm2 : X.mg "set" = none) (ha : PE X a ta)
    (hb : bootBuiltins "sorted" = some (.builtin "sorted") := by decide +kernel) (hb2 : bootBuiltins "set" = some (.type "set") := by decide +kernel)
    (he : starEach [.Call (.Name "set" p2) [a] [] q] X.env = (false, eval (.Call (.Name "set" p2) [a] [] q) X.env) :: starEach [] X.env := by rfl)
    (he2 : starEach [a] X.env = (false, eval a X.env) :: starEach [] X.env := by rfl) :
    PE X (.Call (.Name "sorted" p) [.Call (.Name "set" p2) [a] [] q] [] pos) (tSortSet X.K ta) := by
  refine ⟨fun pins s σ H Q I h => ?_⟩
  refine wpAny_Call_Name_kw (ld_blt I hg hm hb ?_)
  refine PyProof.Rows.callWith_builtin1 ?_ he (by rfl)
  rw [he]
  show wpAny _ _ (spliced ((false, eval (.Call (.Name "set" p2) [a] [] q) X.env) :: backTo pos (starEach [] X.env))) _ _ s
  refine Calls.spliced_cons ?_
  refine wpAny_Call_Name_kw (ld_blt I hg2 hm2 hb2 ?_)
  refine PyProof.Rows.callWith_type1 ?_ he2 (by rfl)
  rw [he2]
  show wpAny _ _ (spliced ((false, eval a X.env) :: backTo q (starEach [] X.env))) _ _ s
  refine Calls.spliced_cons (thn (ha.run pins s σ H _ I h) fun u s1 ⟨x, H1, I1, r1, l, xs, ex, hs, h64, q1⟩ => Calls.spliced_nil ?_)
  subst ex
  obtain rfl : u = Value.ref l := r1
  obtain ⟨its, rv, hl, _⟩ := I1.list hs
  have hlen : its.length = xs.length := by
    have z := rv.length
    rw [List.length_map] at z
    exact z.symm
  have hh := I1.ok.hd hc
  refine call_setS hh hl.isList (rv.strs) (by unfold scanBound; omega) fun h' tk R k => ?_
  have I2 : Inv X pins σ H1 { s1 with heap := h', toks := tk } := I1.kept k
  refine Calls.spliced_nil ?_
  have hR64 : (took xs []).length < 64 := by
    have := took_len xs []
    simp only [List.length_nil] at this
    omega
  refine sorted_setS (s := { s1 with heap := h', toks := tk }) R hh hR64 fun s' p out c ys k2 g o hp hg3 hi hperm hsort => ?_
  have hlen2 : (ys.map V.str).length ≤ sizeLine := by rw [List.length_map, hperm.length_eq]; exact small64 hR64
  have hn : H1 p = none := I2.hok.fresh hp
  have J : Inv X pins σ (upd H1 p (.lst (ys.map V.str))) { ({ s1 with heap := h', toks := tk } : Shared) with heap := s'.heap, gens := s'.gens, drawn := s'.drawn, toks := s'.toks } :=
    I2.call (ch := []) (Un.laid k2 hp hn) (I2.hok.laid k2 hp ⟨hlen2, out.toList, c, vals_of_strs hi, hg3⟩) (by rw [g]; exact I2.bare) (fun _ z => nomatch z)
  have e : s' = { ({ s1 with heap := h', toks := tk } : Shared) with heap := s'.heap, gens := s'.gens, drawn := s'.drawn, toks := s'.toks } := by
    cases s'
    cases s1
    cases o
    rfl
  rw [e]
  refine ⟨.ref p, _, J, rfl, q1 ys p hsort (hperm.nodup_iff.mpr ?_) (fun k => ?_) hn⟩
  · obtain ⟨_, _, _, _, nd⟩ := R
    exact nd
  · rw [hperm.mem_iff, took_mem]
    simp
end
end AL
set_option Elab.async false
set_option linter.all false
set_option maxRecDepth 100000
set_option maxHeartbeats 4000000
namespace AL
open PySem PySem.Spec PyProof.Rows L2

/-! ### the order of texts -/
def sLt (a b : Str) : Prop := a.cps.toList < b.cps.toList
instance (a b : Str) : Decidable (sLt a b) := inferInstanceAs (Decidable (a.cps.toList < b.cps.toList))
theorem sLt_trans' {a b c : Str} (h1 : ¬ sLt b a) (h2 : ¬ sLt c b) : ¬ sLt c a := List.le_trans (show a.cps.toList ≤ b.cps.toList from h1) h2
theorem str_ext {a b : Str} (h : a.cps.toList = b.cps.toList) : a = b := by
  cases a; cases b
  congr 1
  exact Array.toList_inj.mp h
theorem sLt_tri {a b : Str} (h1 : ¬ sLt b a) (h2 : ¬ sLt a b) : a = b := str_ext (List.le_antisymm (show a.cps.toList ≤ b.cps.toList from h1) h2)
theorem sLt_irrefl (a : Str) : ¬ sLt a a := List.lt_irrefl _
theorem sLt_asymm {a b : Str} (h : sLt a b) : ¬ sLt b a := fun h2 => by
  have := List.lt_trans (show a.cps.toList < b.cps.toList from h) h2
  exact List.lt_irrefl _ this
theorem sLt_tr {a b c : Str} (h : sLt a b) (h2 : sLt b c) : sLt a c := List.lt_trans (show a.cps.toList < b.cps.toList from h) h2

/-! ### min(d), the keys texts -/
theorem argBest_str (f : Nat → Str) : ∀ k, argBest (fun i j => decide (sLt (f i) (f j))) k ≤ k ∧ ∀ j, j ≤ k → ¬ sLt (f j) (f (argBest (fun i j => decide (sLt (f i) (f j))) k))
  | 0 => ⟨Nat.le_refl _, fun j hj => by
    have : j = 0 := by omega
    subst this
    exact sLt_irrefl _⟩
  | k + 1 => by
    obtain ⟨h1, h2⟩ := argBest_str f k
    simp only [argBest]
    by_cases hc : sLt (f (k + 1)) (f (argBest (fun i j => decide (sLt (f i) (f j))) k))
    · rw [if_pos (by simpa using hc)]
      refine ⟨Nat.le_refl _, fun j hj => ?_⟩
      rcases Nat.lt_or_ge j (k + 1) with hlt | hge
      · exact fun z => h2 j (by omega) (sLt_tr z hc)
      · have : j = k + 1 := by omega
        subst this
        exact sLt_irrefl _
    · rw [if_neg (by simpa using hc)]
      refine ⟨by omega, fun j hj => ?_⟩
      rcases Nat.lt_or_ge j (k + 1) with hlt | hge
      · exact h2 j (by omega)
      · have : j = k + 1 := by omega
        subst this
        exact hc
theorem cmp_strs {prog : Program} {w : World} {A : Around} {P : Nat → Value → Prop} (val : Nat → Str) (hval : ∀ i v, P i v → ∃ t, v = .str (val i) t) : CmpOf prog w A .Lt P (fun i j => decide (sLt (val i) (val j))) := fun i j vi vj s Q E hi hj h => by
  obtain ⟨t, rfl⟩ := hval i vi hi
  obtain ⟨u, rfl⟩ := hval j vj hj
  exact PySem.P.lt_str h
section
variable {X : Cx}
/-- min(d), d a dict whose keys are texts, one at least -/
theorem call_minD (hc : X.calm = true) : CallR X (.builtin "min") (fun xs H Q => ∃ (a : Addr) (kvs : List (Key × V)) (ks : List Str), xs = [.ref a] ∧ Rd H a (.dK kvs) ∧ kvs.map (·.1) = ks.map Sum.inr ∧ ks ≠ [] ∧ ∀ m, m ∈ ks → (∀ k ∈ ks, ¬ sLt k m) → Q (.str m) H) := by
  intro pins s σ H xs us Q I r h
  obtain ⟨a, kvs, ks, rfl, ha, hks, hne, q⟩ := h
  rw [Vals.ref1 r]
  obtain ⟨_, hsys, vs, rel, dof⟩ := dk_rd I.hok ha
  obtain ⟨ep, dat⟩ := dof.dictAt
  have dat' := dat
  obtain ⟨ob, es, ho, ex, hdat, hko, hpr, hnd⟩ := dat'
  have hlv : vs.length = ks.length := by
    have e1 := congrArg List.length hks
    rw [List.length_map, List.length_map] at e1
    rw [← e1]
    exact (KV.length rel).symm
  have hlen : 0 < vs.length := by
    rw [hlv]
    exact List.length_pos_iff.mpr hne
  have keyAt : ∀ (i : Nat) (k : Key) (v : Value), vs[i]? = some (k, v) → ∃ x : Str, ks[i]? = some x ∧ k = .inr x := fun i k v hk => by
    obtain ⟨x, h1, h2⟩ := KV.at' rel hk
    have e1 : (kvs.map (·.1))[i]? = some k := by rw [List.getElem?_map, h1] <;> rfl
    rw [hks, List.getElem?_map] at e1
    obtain ⟨j, hj, e2⟩ := Option.map_eq_some_iff.mp e1
    exact ⟨j, hj, e2.symm⟩
  have hval : ∀ (i : Nat) (v : Value), (∃ k x, vs[i]? = some (k, x) ∧ (mixKind X.prog X.w).is k v = true) → ∃ t, v = Value.str (ks.getD i Str.empty) t := fun i v ⟨k, x, hk, hv⟩ => by
    obtain ⟨z, hz, rfl⟩ := keyAt i k x hk
    obtain ⟨t, e⟩ := Value.isStrOf_shape (x := z) (v := v) hv
    refine ⟨t, ?_⟩
    rw [e, List.getD_eq_getElem?_getD, hz] <;> rfl
  have hlt : a < s.heap.objs.size := Heap.lt_size ho
  refine call_min_walk (wpAny_pyIter_dict hsys dat ?_)
  refine ⟨_, _, _, _, _, _, _, rfl, Walks.dictKeys (knd := mixKind X.prog X.w) (A := X.A.in1) (I.ok.hd hc) s.heap.objs.size a (Nat.ne_of_lt hlt) vs ep,
    ⟨⟨_, Heap.get?_push_size _ rfl, rfl, rfl⟩, dat.keep fun b u e => Heap.get?_push_of_some _ e⟩, fun b hb => ?_, hlen, cmp_strs (fun i => ks.getD i Str.empty) hval, fun v h' tk hP hk => ?_⟩
  · show b < (s.heap.push _).objs.size
    rw [Heap.size_push]
    rcases List.mem_cons.mp hb with e | hb
    · rw [e]
      exact Nat.lt_succ_self _
    · have e : b = a := List.mem_singleton.mp hb
      rw [e]
      exact Nat.lt_succ_of_lt hlt
  · obtain ⟨t, rfl⟩ := hval _ v hP
    obtain ⟨b1, b2⟩ := argBest_str (fun i => ks.getD i Str.empty) (vs.length - 1)
    refine ⟨.str _, H, I.kept (t' := tk) fun b u e => hk b u (fun hmem => ?_) (Heap.get?_push_of_some _ e), ⟨t, rfl⟩, q _ ?_ fun j hj => ?_⟩
    · have e1 : b = s.heap.objs.size := List.mem_singleton.mp hmem
      have e2 := Heap.lt_size e
      rw [e1] at e2
      exact absurd e2 (Nat.lt_irrefl _)
    · have hb : argBest (fun i j => decide (sLt (ks.getD i Str.empty) (ks.getD j Str.empty))) (vs.length - 1) < ks.length := by omega
      rw [List.getD_eq_getElem?_getD, List.getElem?_eq_getElem hb]
      exact List.getElem_mem hb
    · obtain ⟨i, hi, e⟩ := List.mem_iff_getElem.mp hj
      have e2 : ks.getD i Str.empty = j := by rw [List.getD_eq_getElem?_getD, List.getElem?_eq_getElem hi, ← e] <;> rfl
      rw [← e2]
      exact b2 i (by omega)

/-! ### a ** b of a great base -/
theorem op_powW : OpR X (binaryOp .Pow) (rI (fun i j => 0 ≤ j ∧ ((Builtin.Int.intBits i : Nat) : Int) * j ≤ 2 ^ 27) fun i j => .int (i ^ j.toNat)) := opI fun _ _ _ _ _ _ _ hc q => PyProof.Rows.pow_int hc.1 hc.2 q

/-! ### xs.count(t), xs a list of texts -/
theorem strEq_cps (a b : Str) : (a.cps.toList == b.cps.toList) = (a == b) := by
  by_cases h : a = b
  · subst h
    rw [beq_self_eq_true, beq_self_eq_true]
  · have h2 : ¬ a.cps.toList = b.cps.toList := fun z => h (str_ext z)
    rw [beq_eq_false_iff_ne.mpr h, beq_eq_false_iff_ne.mpr h2]
def eqS (k : Str) (v : Value) : Bool := match v with
  | .str n _ => n == k
  | _ => false
theorem eqS_gives {k : Str} {t : Tok} : ∀ {us : List Value} {ns : List Str}, StrsAre us ns → ∀ y ∈ us, MeetsSeq.EqGives y (.str k t) (eqS k y)
  | _, _, .nil => fun y hy => by cases hy
  | _, _, .cons n t' h => fun y hy => by
    rcases List.mem_cons.mp hy with e | e
    · rw [e]
      have q := SeqRoads2.EqGives.str n k t' t
      rw [strEq_cps] at q
      exact q
    · exact eqS_gives h y e
theorem eqS_count {k : Str} : ∀ {us : List Value} {ns : List Str}, StrsAre us ns → us.countP (eqS k) = ns.count k
  | _, _, .nil => rfl
  | _, _, .cons n t' h => by
    rw [List.countP_cons, List.count_cons, eqS_count h]
    rfl
theorem mt_countS : MtR X "list.count" (fun x xs H Q => ∃ (p : Addr) (ns : List Str) (k : Str), x = .ref p ∧ xs = [.str k] ∧ SqL X.K H p (ns.map V.str) ∧ Q (.int (ns.count k : Nat)) H) := by
  intro pins s σ H x xs v us Q I rx rxs h
  obtain ⟨p, ns, k, rfl, rfl, hs, q⟩ := h
  cases rx
  obtain ⟨u, rfl, ru⟩ := rxs.one
  obtain ⟨t, rfl⟩ := ru
  obtain ⟨its, rv, ⟨⟨cls, dd, data, sl⟩, n, ho, hc, hdn, hd⟩, hlen⟩ := I.list hs
  simp only at hc hd
  subst hc hd
  have hi := rv.strs
  refine call_meets PySem.F.slot_list_count ⟨_, ho, rfl⟩ PySem.F.entry_list_count (PySem.F.args_list_count_2 _ _)
    (SeqAt.list_countAt p its.toArray n dd sl (.str k t) (eqS k)) ⟨ho, fun y hy => (eqS_gives hi y (by simpa using hy)).at _ _, ?_⟩
  have ec : its.toArray.toList.countP (eqS k) = ns.count k := eqS_count hi
  refine ⟨.int (ns.count k : Nat), H, I.tok _, ⟨s.toks, ?_⟩, q⟩
  show Value.int ((its.toArray.toList.countP (eqS k) : Nat) : Int) s.toks = Value.int ((ns.count k : Nat) : Int) s.toks
  rw [ec]

/-! ### list(t), t a text -/
theorem vals_get : ∀ {xs : List V} {us : List Value}, xs.length = us.length → (∀ (i : Nat) (x : V) (v : Value), xs[i]? = some x → us[i]? = some v → RelV x v) → Vals xs us
  | [], [], _, _ => .nil
  | [], _ :: _, h, _ => by cases h
  | _ :: _, [], h, _ => by cases h
  | x :: xs, u :: us, h, f => .cons (f 0 x u rfl rfl) (vals_get (by simpa using h) fun i y v e1 e2 => f (i + 1) y v (by simpa using e1) (by simpa using e2))
theorem call_listT (hc : X.calm = true) : CallR X (.type "list") (fun xs H Q => ∃ z : Str, xs = [.str z] ∧ z.cps.size ≤ sizeLine ∧ ∀ l, H l = none → Q (.ref l) (upd H l (.lst (z.cps.toList.map fun c => V.str ⟨#[c]⟩)))) := by
  intro pins s σ H xs us Q I r h
  obtain ⟨z, rfl, hz, q⟩ := h
  obtain ⟨u, rfl, rx⟩ := vals1 r
  obtain ⟨t, rfl⟩ := rx
  refine call_list_str (hn := hz) (I.ok.hd hc) z t fun h' tk acc c kp he hi => ?_
  have hv : Vals (z.cps.toList.map fun c => V.str ⟨#[c]⟩) acc.toList := by
    obtain ⟨h1, h2⟩ := hi
    refine vals_get (by rw [List.length_map, Array.length_toList, Array.length_toList, h1]) fun i x v ex ev => ?_
    rw [List.getElem?_map, Array.getElem?_toList] at ex
    rw [Array.getElem?_toList] at ev
    obtain ⟨cc, u, e1, e2⟩ := h2 i v ev
    rw [e1] at ex
    have ex : V.str ⟨#[cc]⟩ = x := Option.some.inj ex
    rw [← ex, e2]
    exact ⟨u, rfl⟩
  exact ⟨.ref s.heap.objs.size, _, I.laid (o := .lst (z.cps.toList.map fun c => V.str ⟨#[c]⟩)) (t' := tk) kp (Nat.le_refl _) ⟨by rw [List.length_map, Array.length_toList]; exact hz, acc.toList, c, hv, he⟩, rfl, q _ (I.hok.fresh (Nat.le_refl _))⟩
end
end AL
set_option Elab.async false
set_option linter.all false
set_option maxRecDepth 100000
set_option maxHeartbeats 4000000
namespace AL
open PySem PySem.Spec PyProof.Rows L2
def keyD : Key → PyData
  | .inl i => .int i
  | .inr x => .str x
mutual
/-- x is the datum d, over tracked lists, tuples, dicts -/
inductive Dat (H : Hp) : V → PyData → Prop
  | non : Dat H .non .none
  | bl (b : Bool) : Dat H (.bl b) (.bool b)
  | int (i : Int) : Dat H (.int i) (.int i)
  | str (x : Str) : Dat H (.str x) (.str x)
  | lst {a : Addr} {xs : List V} {ds : List PyData} : Rd H a (.lst xs) → Dats H xs ds → Dat H (.ref a) (.list ds)
  | tup {a : Addr} {xs : List V} {ds : List PyData} : Rd H a (.tup xs) → Dats H xs ds → Dat H (.ref a) (.tuple ds)
  | dic {a : Addr} {kvs : List (Key × V)} {ds : List PyData} : Rd H a (.dK kvs) → Dats H (kvs.map (·.2)) ds → Dat H (.ref a) (.dict ((kvs.map fun q => keyD q.1).zip ds))
inductive Dats (H : Hp) : List V → List PyData → Prop
  | nil : Dats H [] []
  | cons {x : V} {xs : List V} {d : PyData} {ds : List PyData} : Dat H x d → Dats H xs ds → Dats H (x :: xs) (d :: ds)
end
theorem Dats.len {H : Hp} : ∀ {xs : List V} {ds : List PyData}, Dats H xs ds → xs.length = ds.length
  | _, _, .nil => rfl
  | _, _, .cons _ t => by simp [Dats.len t]
theorem Dats.of {H : Hp} {α : Type} (f : α → V) (g : α → PyData) : ∀ (l : List α), (∀ x ∈ l, Dat H (f x) (g x)) → Dats H (l.map f) (l.map g)
  | [], _ => .nil
  | x :: l, h => .cons (h x List.mem_cons_self) (Dats.of f g l fun y hy => h y (List.mem_cons_of_mem _ hy))
theorem Dats.strs {H : Hp} (l : List Str) : Dats H (l.map V.str) (l.map PyData.str) := Dats.of _ _ l fun x _ => .str x

/-- what is read at a: tracked, no other thing -/
def TrkD (H : Hp) (a : Addr) : Prop := (∃ xs, Rd H a (.lst xs)) ∨ ∃ kvs, Rd H a (.dK kvs)
section
variable {P : Program} {w : World} {H : Hp} {h : Heap}
theorem pairs_keys : ∀ {es : List DictEntry} {vs : List (Key × Value)}, Pairs (mixKind P w) es vs → ReadsAll h (es.map (·.key)) (vs.map fun q => keyD q.1) []
  | _, _, .nil => .nil
  | _, _, .cons (kv := kv) hk hv t => by
    have r : ReadsAll h _ _ [] := pairs_keys t
    refine ReadsAll.cons (as := []) ?_ r
    obtain ⟨k, v⟩ := kv
    rcases keyIs_shape (show keyIs k _ = true from hk) with ⟨i, t, e1, e2⟩ | ⟨x, t, e1, e2⟩
    · have e1 : k = Sum.inl i := e1
      subst e1
      dsimp only
      rw [e2]
      exact .int i t
    · have e1 : k = Sum.inr x := e1
      subst e1
      dsimp only
      rw [e2]
      exact .str x t
theorem pairs_vals : ∀ {es : List DictEntry} {vs : List (Key × Value)}, Pairs (mixKind P w) es vs → es.map (·.val) = vs.map (·.2)
  | _, _, .nil => rfl
  | _, _, .cons hk hv t => by rw [List.map_cons, List.map_cons, hv, pairs_vals t]
theorem kv_keys : ∀ {kvs : List (Key × V)} {vs : List (Key × Value)}, KV kvs vs → (kvs.map fun q => keyD q.1) = vs.map fun q => keyD q.1
  | _, _, .nil => rfl
  | _, _, .cons r t => by rw [List.map_cons, List.map_cons, r.1, kv_keys t]
theorem kv_vals : ∀ {kvs : List (Key × V)} {vs : List (Key × Value)}, KV kvs vs → Vals (kvs.map (·.2)) (vs.map (·.2))
  | _, _, .nil => .nil
  | _, _, .cons r t => .cons r.2 (kv_vals t)
mutual
theorem dat_reads (ok : HOk P w H h) : ∀ {x : V} {d : PyData}, Dat H x d → ∀ {u : Value}, RelV x u → ∃ as, Reads h u d as ∧ ∀ a ∈ as, TrkD H a
  | _, _, .non, u, r => by cases r; exact ⟨[], .none, fun _ z => nomatch z⟩
  | _, _, .bl b, u, r => by cases r; exact ⟨[], .bool b, fun _ z => nomatch z⟩
  | _, _, .int i, u, r => by obtain ⟨t, rfl⟩ := r; exact ⟨[], .int i t, fun _ z => nomatch z⟩
  | _, _, .str x, u, r => by obtain ⟨t, rfl⟩ := r; exact ⟨[], .str x t, fun _ z => nomatch z⟩
  | _, _, .lst ha hd, u, r => by
    cases r
    obtain ⟨z, its, n, rv, e⟩ := Rd.ok ha ok
    obtain ⟨as, ra, ta⟩ := dats_reads ok hd rv
    exact ⟨_ :: as, .list e rfl rfl ra, fun b hb => by
      rcases List.mem_cons.mp hb with q | q
      · rw [q]
        exact .inl ⟨_, ha⟩
      · exact ta b q⟩
  | _, _, .tup ha hd, u, r => by
    cases r
    obtain ⟨z, its, rv, o, e, c, n, dd⟩ := Rd.ok ha ok
    obtain ⟨as, ra, ta⟩ := dats_reads ok hd rv
    exact ⟨as, .tuple e c dd (by simpa using ra), ta⟩
  | _, _, .dic (kvs := kvs) (ds := ds) ha hd, u, r => by
    cases r
    obtain ⟨z, hsys, vs, rel, o, es, ep, e, ex, dd, _, pr, _⟩ := dk_rd ok ha
    obtain ⟨as, ra, ta⟩ := dats_reads ok hd (kv_vals rel)
    have hl : (kvs.map fun q => keyD q.1).length = ds.length := by
      have := Dats.len hd
      simpa using this
    refine ⟨_ :: [] ++ as, .dict e ex.1 dd ?_ ?_, fun b hb => ?_⟩
    · rw [List.map_fst_zip (Nat.le_of_eq hl), kv_keys rel]
      exact pairs_keys pr
    · rw [List.map_snd_zip (Nat.le_of_eq hl.symm), pairs_vals pr]
      exact ra
    · rcases List.mem_cons.mp hb with q | q
      · rw [q]
        exact .inr ⟨_, ha⟩
      · exact ta b q
theorem dats_reads (ok : HOk P w H h) : ∀ {xs : List V} {ds : List PyData}, Dats H xs ds → ∀ {us : List Value}, Vals xs us → ∃ as, ReadsAll h us ds as ∧ ∀ a ∈ as, TrkD H a
  | _, _, .nil, us, r => by cases r; exact ⟨[], .nil, fun _ z => nomatch z⟩
  | _, _, .cons hd ht, us, r => by
    cases r with
    | cons r1 r2 =>
      obtain ⟨as, ra, ta⟩ := dat_reads ok hd r1
      obtain ⟨bs, rb, tb⟩ := dats_reads ok ht r2
      exact ⟨as ++ bs, .cons ra rb, fun b hb => (List.mem_append.mp hb).elim (ta b) (tb b)⟩
end
end
/-- sys.modules is out of reach -/
def SysOk (H : Hp) : Prop := ∃ o φ, H sysModules = some (.frz o (.ext φ))
theorem sys_out {H : Hp} (hs : SysOk H) {a : Addr} (ht : TrkD H a) : a ≠ sysModules := fun e => by
  obtain ⟨o, φ, hs⟩ := hs
  subst e
  rcases ht with ⟨xs, h | ⟨o', h⟩⟩ | ⟨xs, h | ⟨o', h⟩⟩ <;> rw [hs] at h <;> cases h
section
variable {X : Cx}
/-- repr(x), x a list, a tuple, a dict -/
def rRepr : List V → Hp → VK → Prop := fun xs H Q => ∃ (a : Addr) (d : PyData), xs = [.ref a] ∧ SysOk H ∧ Dat H (.ref a) d ∧ d.showable = true ∧ d.depth ≤ 60 ∧ d.shown.length ≤ sizeLine ∧ Q (.str d.shown) H
theorem call_reprD {k : Nat} (hr : Room k X.A) (hgd : X.A.guards = some []) : CallR X (.builtin "repr") rRepr := by
  intro pins s σ H xs us Q I r h
  obtain ⟨a, d, rfl, hs, hd, h1, h2, h3, q⟩ := h
  rw [Vals.ref1 r]
  obtain ⟨as, ra, ta⟩ := dat_reads I.hok hd (u := .ref a) rfl
  refine repr_of_reads' ra h1 (fun _ hm => sys_out hs (ta _ hm) rfl) hgd (by have := hr.un; omega) (fun b o e => e) (fun h' u tk k => ?_) h3
  exact ⟨.str d.shown, H, I.kept (t' := tk) k, ⟨u, rfl⟩, q⟩
end
end AL
set_option Elab.async false
set_option linter.all false
set_option maxRecDepth 100000
set_option maxHeartbeats 4000000
namespace AL
open PySem PySem.Spec PyProof.Rows L2
open GxR (TabB TabG Tabbed)
/-! ### promises that lean on the guards -/
/-- as FnOk, for callers with no repr under way -/
structure FnG (P : Program) (w : World) (K : PySem.W.Frag) (mg : Str → Option Value) (base : Heap) (CX : CXT) (k : Nat) (f : Addr) (fd : FuncData) (ps : List Str) (sp : Sp) : Prop where
  len : ∀ vs H Q E, sp vs H Q E → vs.length = ps.length
  run : ∀ (A : Around) (outer : List Env) (s : Shared) (H : Hp) (args : Args) (us : List Value) (vs : List V) (Q : VK) (E : XK), A.guards = some [] → Room k A → Env0 P w K mg base A outer s H → BindsTo s fd args (ps.zip us) → Vals vs us → sp vs H Q E →
    codeAny (model P w) A (.call (.ref f) args) (CR CX outer P w H s Q E) s
section
variable {P : Program} {w : World} {K : PySem.W.Frag} {mg : Str → Option Value} {base : Heap} {k : Nat} {f : Addr} {fd : FuncData}
theorem fnG_of {CX : CXT} {name qual : Str} {params : Arguments} {body : List Stmt} {scope : Scope} {dV kV doc pm cdv ct oc : Value} {an od : Option Addr}
    {osl : Array (Option Value)} {N ps : List Str} {sp : Sp} (lk : K.lookup f = some ⟨oc, od, .func (PySem.W.fnOf name qual params body scope dV kV doc pm an cdv ct), osl⟩) (hcd : PySem.W.codeIn K cdv qual = true) (S : FnScope N ps scope)
    (len : ∀ vs H Q E, sp vs H Q E → vs.length = ps.length)
    (hbody : ∀ (A : Around) (outer : List Env) (s : Shared) (H : Hp) (vs : List V) (Q : VK) (E : XK), A.guards = some [] → Room k (A.deeper (envOfC qual scope s.heap.objs.size f cdv)) → sp vs H Q E →
      ∃ t, PSs (cxOf CX P w K mg base N qual scope f cdv A outer s H E) body t ∧ t { nx := fun _ H' => Q .non H', rt := Q } (start N vs) H) :
    FnG P w K mg base CX (k + 1) f (PySem.W.fnOf name qual params body scope dV kV doc pm an cdv ct) ps sp := by
  refine ⟨len, fun A outer s H args us vs Q E hgd hr e0 hb r hsp => ?_⟩
  have KX : K.In s.heap := e0.mod.kin.keeps fun b o e => (e0.bs b o e).1
  have lim : s.heap.NoLimit := e0.mod.nolimit.keeps fun b o e => (e0.bs b o e).1
  refine codeAny_call_function hr.depth (KX _ _ lk) rfl S.co S.gen rfl (PySem.W.codeRec_of KX hcd) (hb _ _ _ _ ?_)
  refine wpAny_newFunctionEnv_cells S.kind (fun ⟨n, v⟩ hy => ?_) fun env he s1 x => ?_
  · rcases S.par n (List.of_mem_zip hy).1 with q | q
    · exact .inl q
    · exact .inr ⟨q, PySem.W.cellsFrom_some _ _ _ (.inl q)⟩
  subst he
  refine ⟨lim.keeps x.toInCall.keep, codeAny_func ?_⟩
  obtain ⟨t, ht, hq⟩ := hbody A outer s H vs Q E hgd (hr.deeper _) hsp
  have I : Inv (cxOf CX P w K mg base N qual scope f cdv A outer s H E) [] (start N vs) H s1 := inv_start S hr.hd e0 (len _ _ _ _ hsp) r x
  refine wpAny_mono (ht.run [] s1 (start N vs) H _ I hq) (fun fl s' hs => ?_) fun e s' hs => hs
  cases fl with
  | ret u =>
    obtain ⟨v, σ', H', J, rv, q⟩ := hs
    exact ⟨v, H', J.os, J.bare, J.base, J.hok, rv, q⟩
  | next =>
    obtain ⟨σ', H', J, q⟩ := hs
    exact ⟨V.non, H', J.os, J.bare, J.base, J.hok, rfl, q⟩
  | brk =>
    obtain ⟨_, _, _, q⟩ := hs
    exact False.elim q
  | cont =>
    obtain ⟨_, _, _, q⟩ := hs
    exact False.elim q
/-- a def's body -/
theorem funG_ok {x qual : Str} {params : Arguments} {body : List Stmt} {scope : Scope} {dvs : List V} {kws : List (Str × V)} {N ps : List Str} {sp : Sp} (F : FunD K x qual params body scope dvs kws f fd) (S : FnScope N ps scope) (len : ∀ vs H Q E, sp vs H Q E → vs.length = ps.length)
    (hbody : ∀ (cdv : Value) (A : Around) (outer : List Env) (s : Shared) (H : Hp) (vs : List V) (Q : VK) (E : XK), A.guards = some [] → Room k (A.deeper (envOfC qual scope s.heap.objs.size f cdv)) → sp vs H Q E →
      ∃ t, PSs (cxOf CX0 P w K mg base N qual scope f cdv A outer s H E).nox body t ∧ t { nx := fun _ H' => Q .non H', rt := Q } (start N vs) H) : FnG P w K mg base CX0 (k + 1) f fd ps sp := by
  obtain ⟨oc, od, dV, kV, doc, pm, an, cdv, ct, osl, rfl, lk, hcd, _, _⟩ := F.ex
  refine fnG_of lk hcd S len fun A outer s H vs Q E hgd hr hsp => ?_
  obtain ⟨t, h, q⟩ := hbody cdv A outer s H vs Q E hgd hr hsp
  exact ⟨t, h.nox, q⟩
end
section
variable {X : Cx} {CX : CXT} {k : Nat} {f : Addr} {fd : FuncData} {ps : List Str} {sp : Sp} {dvs : List V} {ds : List Value} {E : XK} {x : Str} {p pos : Pos} {e : Expr} {es : List Expr} {t : TA}
theorem pe_callG (F : FnG X.prog X.w X.K X.mg X.base CX k f fd ps sp) (hgd : X.A.guards = some []) (hr : Room k X.A) (hg : Gl X x) (hm : X.mg x = some (.ref f)) (hk : PySem.W.keepIn X.K (.ref f) = true) (hb : Binds X.K fd ps ds) (hd : Vals dvs ds) (hx : Passes CX X E)
    (ha : PA X (e :: es) t) (hdb : (x == ("__debug__" : Str)) = false := by decide) (he : starEach (e :: es) X.env = (false, eval e X.env) :: starEach es X.env := by rfl) (hpl : (backTo pos (starEach es X.env)).any (·.1) = false := by rfl) :
    PE X (.Call (.Name x p) (e :: es) [] pos) (tCall sp dvs E t) := by
  refine ⟨fun pins s σ H Q I h => ?_⟩
  refine wpAny_Call_Name_kw (ld_glob I hg hm ?_ hdb)
  refine PySem.W.callWith_K (h₀ := X.base) I.ok.mod.kin hk (thn (ha.run pos pins s σ H _ I h) fun us s1 ⟨vs, H1, I1, r, q⟩ => ⟨I1.kIn, ?_⟩) he hpl
  have r2 : Vals (vs ++ dvs) (us ++ ds) := r.append hd
  refine wpAny_call (codeAny_mono (F.run X.A X.stack s1 H1 ⟨us, []⟩ (us ++ ds) (vs ++ dvs) _ E hgd hr I1.env0 (hb s1 us I1.kIn (by rw [← r2.length]; exact F.len _ _ _ _ q)) r2 q) fun r' s' hq => ?_)
  cases r' with
  | error ev => exact hx pins σ H1 s1 ev s' I1 hq
  | ok fl =>
    cases fl with
    | ret u => exact I1.after hq
    | next => exact False.elim hq
    | brk => exact False.elim hq
    | cont => exact False.elim hq
end

/-! ### the end -/
/-- the abstract heap at the law's entry: sys.modules, the tables, the script -/
noncomputable def hp0 (K : PySem.W.Frag) (cs : List (Addr × Addr)) (os oa : Obj) (a : Addr) (xs : List V) : Hp := fun b =>
  if b = sysModules then some (.frz os (.ext fun _ => True)) else
  if b ∈ cs.map (·.2) then some (.tbl #[]) else
  if b = a ∧ K.lookup a = none then some (.frz oa (.lst xs)) else none
section
variable {K : PySem.W.Frag} {cs : List (Addr × Addr)} {os oa : Obj} {a : Addr} {xs : List V}
theorem hp0_sys : hp0 K cs os oa a xs sysModules = some (.frz os (.ext fun _ => True)) := if_pos rfl
theorem hp0_tab {b : Addr} (h1 : b ≠ sysModules) (h2 : b ∈ cs.map (·.2)) : hp0 K cs os oa a xs b = some (.tbl #[]) := (if_neg h1).trans (if_pos h2)
theorem hp0_scr {b : Addr} (h1 : b ≠ sysModules) (h2 : b ∉ cs.map (·.2)) (h3 : b = a ∧ K.lookup a = none) : hp0 K cs os oa a xs b = some (.frz oa (.lst xs)) := (if_neg h1).trans ((if_neg h2).trans (if_pos h3))
theorem hp0_non {b : Addr} (h1 : b ≠ sysModules) (h2 : b ∉ cs.map (·.2)) (h3 : ¬ (b = a ∧ K.lookup a = none)) : hp0 K cs os oa a xs b = none := (if_neg h1).trans ((if_neg h2).trans (if_neg h3))
/-- what stands at b -/
theorem hp0_cases (b : Addr) : (b = sysModules ∧ hp0 K cs os oa a xs b = some (.frz os (.ext fun _ => True))) ∨
    (b ≠ sysModules ∧ b ∈ cs.map (·.2) ∧ hp0 K cs os oa a xs b = some (.tbl #[])) ∨
    (b ≠ sysModules ∧ b ∉ cs.map (·.2) ∧ (b = a ∧ K.lookup a = none) ∧ hp0 K cs os oa a xs b = some (.frz oa (.lst xs))) ∨
    (b ≠ sysModules ∧ b ∉ cs.map (·.2) ∧ ¬ (b = a ∧ K.lookup a = none) ∧ hp0 K cs os oa a xs b = none) := by
  by_cases h1 : b = sysModules
  · exact .inl ⟨h1, by rw [h1]; exact hp0_sys⟩
  by_cases h2 : b ∈ cs.map (·.2)
  · exact .inr (.inl ⟨h1, h2, hp0_tab h1 h2⟩)
  by_cases h3 : b = a ∧ K.lookup a = none
  · exact .inr (.inr (.inl ⟨h1, h2, h3, hp0_scr h1 h2 h3⟩))
  · exact .inr (.inr (.inr ⟨h1, h2, h3, hp0_non h1 h2 h3⟩))
end
theorem law_callG {P : Program} {w : World} {K : PySem.W.Frag} {mg mb : Str → Option Value} {k : Nat} {fa a : Addr} {cs : List (Addr × Addr)} {fd : FuncData} {x : Str} {sp : Sp} {s₁ : Shared} {vs : List Value} {ns : List Int} {osys : Obj}
    (KX : K.In s₁.heap) (hns : s₁.heap.Ns mainGlobals mg) (hb : s₁.heap.Ns builtinsNs mb) (hbb : ∀ y : Str, y ≠ "__name__" → mb y = bootBuiltins y) (hlim : s₁.heap.NoLimit) (hg : s₁.gens = #[])
    (hT : ∀ p ∈ cs, s₁.heap.get? p.2 = some { cls := .none, data := .fields #[] })
    (nT : ∀ p ∈ cs, K.lookup p.2 = none) (C : ∀ p ∈ cs, PySem.W.CodeHd s₁.heap p.1 p.2)
    (hbm : ∃ (m : Addr) (om : Obj), mg "__builtins__" = some (.ref m) ∧ m ≠ builtinsNs ∧ s₁.heap.get? m = some om ∧
      om.cls = .type "module" ∧ om.dict = some builtinsNs ∧ om.data = .plain)
    (hsys : s₁.heap.get? sysModules = some osys) (hsysd : ∃ es ep, osys.data = .dict es ep) (nS : K.lookup sysModules = none)
    (ha : s₁.heap.get? a = some { cls := .type "list", data := .seq vs.toArray }) (hi : IntsAre vs ns) (hl : ns.length ≤ sizeLine) (hr : Room k callerA)
    (F : ∀ base : Heap, K.In base → base.Ns mainGlobals mg → (∀ p ∈ cs, TabB base mg p.1 p.2) → FnG P w K mg base CX0 k fa fd [x] sp)
    (hbind : ∀ (s : Shared) (u : Value), BindsTo s fd ⟨[u], []⟩ [(x, u)])
    (hsp : ∀ H : Hp, (∀ p ∈ cs, H p.2 = some (.tbl #[])) → SysOk H → SqL K H a (ns.map V.int) → sp [.ref a] H (fun v _ => v = .bl true) fun _ _ _ => False) :
    codeAny (model P w) callerA (.call (.ref fa) ⟨[.ref a], []⟩)
      (fun r s' => r = .ok (.ret (.bool true)) ∧ OldK s₁.heap s'.heap ∧ s'.os = s₁.os ∧ AllBare s'.gens) s₁ := by
  obtain ⟨se, sp1, sd⟩ := hsysd
  generalize hoa : ({ cls := .type "list", data := .seq vs.toArray } : Obj) = oa at ha
  -- the places differ
  have tabOf : ∀ b : Addr, b ∈ cs.map (·.2) → s₁.heap.get? b = some { cls := .none, data := .fields #[] } := by
    intro b q
    obtain ⟨p, hp, e⟩ := List.mem_map.mp q
    exact e ▸ hT p hp
  have sysT : sysModules ∉ cs.map (·.2) := fun q => by
    have e := tabOf _ q
    rw [hsys] at e
    injection e with e
    rw [e] at sd
    cases sd
  have sysA : a ≠ sysModules := fun q => by
    rw [q, hsys] at ha
    injection ha with e
    rw [e, ← hoa] at sd
    cases sd
  have tabA : a ∉ cs.map (·.2) := fun q => by
    have e := tabOf _ q
    rw [ha, ← hoa] at e
    injection e with e
    injection e with _ _ e
    cases e
  have tabS : ∀ {b : Addr}, b ∈ cs.map (·.2) → b ≠ sysModules := fun q z => sysT (z ▸ q)
  have rows := vals_ints hi
  have hlen : (ns.map V.int).length ≤ sizeLine := by rw [List.length_map]; exact hl
  generalize hH : hp0 K cs osys oa a (ns.map V.int) = H
  have what : ∀ b, _ := fun b => hH ▸ hp0_cases (K := K) (cs := cs) (os := osys) (oa := oa) (a := a) (xs := ns.map V.int) b
  have hok : HOk P w H s₁.heap := by
    intro b u q
    rcases what b with ⟨e, z⟩ | ⟨_, e, z⟩ | ⟨_, _, e, z⟩ | ⟨_, _, _, z⟩
    · rw [z] at q; cases q
      exact e ▸ ⟨hsys, trivial, ⟨_, hsys⟩, fun _ _ _ _ => trivial⟩
    · rw [z] at q; cases q
      exact tabOf b e
    · rw [z] at q; cases q
      exact e.1 ▸ ⟨ha, hlen, vs, _, rows, hoa ▸ ha⟩
    · rw [z] at q; cases q
  -- what isn't of these kinds stays in the base
  have free : ∀ {b : Addr} {o : Obj}, s₁.heap.get? b = some o → b ≠ sysModules → o ≠ { cls := .none, data := .fields #[] } → o ≠ oa → H b = none := by
    intro b o e h1 h2 h3
    rcases what b with ⟨q, _⟩ | ⟨_, q, _⟩ | ⟨_, _, q, _⟩ | ⟨_, _, _, z⟩
    · exact (h1 q).elim
    · exact (h2 (Option.some.inj (e.symm.trans (tabOf b q)))).elim
    · exact (h3 (Option.some.inj (e.symm.trans (q.1 ▸ ha)))).elim
    · exact z
  have dfree : ∀ {b : Addr} {o : Obj} {es : Array DictEntry} {ep : Nat}, s₁.heap.get? b = some o → o.data = .dict es ep → b ≠ sysModules → H b = none := by
    intro b o es ep e d h1
    refine free e h1 (fun z => ?_) fun z => ?_
    · rw [z] at d; cases d
    · rw [z, ← hoa] at d; cases d
  have nsB : ∀ {b : Addr} {m : Str → Option Value}, b ≠ sysModules → s₁.heap.Ns b m → (hidT s₁.heap H).Ns b m := by
    rintro b m h1 ⟨o, es, ep, e, d, r⟩
    exact ⟨o, es, ep, hidT_get e (dfree e d h1), d, r⟩
  have Kb : K.In (hidT s₁.heap H) := by
    intro b o e
    refine hidT_get (KX b o e) ?_
    rcases what b with ⟨q, _⟩ | ⟨_, q, _⟩ | ⟨_, _, q, _⟩ | ⟨_, _, _, z⟩
    · rw [q, nS] at e; cases e
    · obtain ⟨p, hp, z⟩ := List.mem_map.mp q
      rw [← z, nT p hp] at e; cases e
    · rw [q.1, q.2] at e; cases e
    · exact z
  have M : L2.Mod K mg (hidT s₁.heap H) := ⟨Kb, nsB (by decide) hns, ⟨mb, nsB (by decide) hb, hbb⟩, let ⟨mc, h1, h2⟩ := hlim; ⟨mc, nsB (by decide) h1, h2⟩⟩
  have TB : ∀ p ∈ cs, TabB (hidT s₁.heap H) mg p.1 p.2 := by
    intro p hp
    have tp := hT p hp
    refine ⟨?_, ?_, fun z => ?_⟩
    · obtain ⟨o, us, file, tf, flags, tg, inF, text, tt, e1, r1, r2, r⟩ := C p hp
      refine ⟨o, us, file, tf, flags, tg, inF, text, tt, hidT_get e1 (free e1 (fun z => ?_) (fun z => ?_) fun z => ?_), r1, r2, r⟩
      · rw [z, hsys] at e1; injection e1 with e1
        rw [e1, r2] at sd; cases sd
      · rw [z] at r2; cases r2
        simp at r
      · rw [z, ← hoa] at r2; cases r2
    · obtain ⟨m, om, b1, b2, b3, b4, b5, b6⟩ := hbm
      refine ⟨m, om, b1, b2, fun q => ?_, fun q => ?_, hidT_get b3 (free b3 (fun z => ?_) (fun z => ?_) fun z => ?_), b4, b5, b6⟩
      · obtain ⟨o, es, ep, e, d, _⟩ := hns
        rw [← q, b3] at e; injection e with e
        rw [← e, b6] at d; cases d
      · rw [q, tp] at b3; cases b3; cases b6
      · rw [z, hsys] at b3; injection b3 with b3
        rw [b3, b6] at sd; cases sd
      · rw [z] at b6; cases b6
      · rw [z, ← hoa] at b6; cases b6
    · obtain ⟨o, es, ep, e, d, _⟩ := hns
      rw [z, tp] at e; cases e; cases d
  have E0 : Env0 P w K mg (hidT s₁.heap H) callerA [] s₁ H :=
    ⟨rfl, M, fun _ _ e => of_hidT e, Nat.le_of_eq (hidT_size _ _), trivial, fun b q => absurd q (List.not_mem_nil), hok, .of_eq hg⟩
  have scr : SqL K H a (ns.map V.int) := by
    cases q : K.lookup a with
    | none => exact .inl (.inr ⟨oa, hH ▸ hp0_scr sysA tabA ⟨rfl, q⟩⟩)
    | some o =>
      have e := KX a o q
      rw [ha] at e; injection e with e
      subst e; subst hoa
      exact .inr ⟨_, vs.toArray, _, q, rfl, rfl, rfl, by rw [List.size_toArray, hi.length]; exact hl, by simpa using rows⟩
  have tabs : ∀ p ∈ cs, H p.2 = some (.tbl #[]) := fun p hp => hH ▸ hp0_tab (tabS (List.mem_map.mpr ⟨p, hp, rfl⟩)) (List.mem_map.mpr ⟨p, hp, rfl⟩)
  have sysH : SysOk H := ⟨osys, _, hH ▸ hp0_sys⟩
  have R := (F _ Kb (nsB (by decide) hns) TB).run callerA [] s₁ H ⟨[.ref a], []⟩ [.ref a] [.ref a] _ _ rfl hr E0 (hbind s₁ (.ref a)) (.cons rfl .nil) (hsp H tabs sysH scr)
  refine codeAny_mono R fun r s' h => ?_
  match r, h with
  | .error e, h => exact False.elim h
  | .ok .next, h => exact False.elim h
  | .ok .brk, h => exact False.elim h
  | .ok .cont, h => exact False.elim h
  | .ok (.ret u), h =>
    obtain ⟨v, H', os, bare, un, ok2, r', q⟩ := h
    cases (show v = .bl true from q)
    obtain rfl : u = Value.bool true := r'
    have same : ∀ {b : Addr} {ob o : Obj} {y : HO}, H b = some (.frz ob y) → s₁.heap.get? b = some o → s'.heap.get? b = some o := fun z e => by
      have e1 := (hok _ _ z).1
      rw [e] at e1; injection e1 with e1
      exact e1 ▸ (ok2 _ _ (un.frzs _ _ _ z)).1
    have stay : ∀ b o, b ∉ cs.map (·.2) → s₁.heap.get? b = some o → s'.heap.get? b = some o := by
      intro b o nb e
      rcases what b with ⟨_, z⟩ | ⟨_, q, _⟩ | ⟨_, _, _, z⟩ | ⟨_, _, _, z⟩
      · exact same z e
      · exact (nb q).elim
      · exact same z e
      · exact un.keep b o e z (List.not_mem_nil) (List.not_mem_nil)
    have grown : ∀ p ∈ cs, ∃ more : Array Value, s'.heap.get? p.2 = some { cls := .none, data := .fields more } := fun p hp => by
      obtain ⟨more, z⟩ := un.tbls p.2 #[] (tabs p hp)
      exact ⟨_, ok2 p.2 _ z⟩
    refine ⟨rfl, ⟨fun b o e => ?_, fun b o e => ?_⟩, os, bare⟩
    · by_cases q : b ∈ cs.map (·.2)
      · obtain ⟨p, hp, z⟩ := List.mem_map.mp q
        obtain ⟨more, hm⟩ := grown p hp
        subst z
        have e' := hT p hp
        rw [e] at e'; cases e'
        exact .inr (.inl ⟨((C p hp).tab (hT p hp)).isCodeTable, rfl, #[], more, rfl, by rw [Array.empty_append]; exact hm⟩)
      · exact .inl (stay b o q e)
    · by_cases q : b ∈ cs.map (·.2)
      · obtain ⟨p, hp, z⟩ := List.mem_map.mp q
        subst z
        obtain ⟨more, hm⟩ := grown p hp
        exact ⟨_, hm⟩
      · exact ⟨o, stay b o q e⟩
end AL
set_option Elab.async false
set_option linter.all false
set_option maxRecDepth 100000
set_option maxHeartbeats 4000000
namespace AL
open PySem PySem.Spec PyProof.Rows L2
open GxR (TabB TabG Tabbed)
/-! ### the head's facts, sys.modules among them -/
def sysB (g : Addr → Option Obj) : Bool := match g sysModules with
  | some ⟨_, _, .dict _ _, _⟩ => true
  | _ => false
theorem sysB_ok {g : Addr → Option Obj} (h : sysB g = true) : ∃ o, g sysModules = some o ∧ ∃ es ep, o.data = .dict es ep := by
  unfold sysB at h
  cases q : g sysModules with
  | none => rw [q] at h; cases h
  | some o =>
    obtain ⟨oc, od, dt, osl⟩ := o
    rw [q] at h
    cases dt with
    | dict es ep => exact ⟨_, rfl, es, ep, rfl⟩
    | _ => cases h
def noSys (K : PySem.W.Frag) : Bool := (K.lookup sysModules).isNone
abbrev AlG : Type := He.AlX × Bool
def obsG (n : Nat) (fa : List He.Fa) (fn : List He.DefD) (ts : List He.Tab) (tf : List He.Defn) (g : Addr → Option Obj) : AlG := (He.obsX n fa fn ts tf noSys g, sysB g)
structure SaysG (fa : List He.Fa) (fn : List He.DefD) (ts : List He.Tab) (tf : List He.Defn) (w : World) (h : Heap) : Prop where
  x : ∃ K : PySem.W.Frag, K.In h ∧ He.SaysX fa fn ts tf noSys w h K
  sys : ∃ o, h.get? sysModules = some o ∧ ∃ es ep, o.data = .dict es ep
def hookG (n : Nat) (fa : List He.Fa) (fn : List He.DefD) (ts : List He.Tab) (tf : List He.Defn) : PySem.W.Hook where
  α := AlG
  obs := fun s => obsG n fa fn ts tf s.heap.get?
  val := fun w => (He.valX fn ts w, true)
  says := fun w h => SaysG fa fn ts tf w h
  of := fun _ _ e => ⟨⟨_, He.frT_in, He.saysX_of (congrArg (fun z : AlG => z.1) e)⟩, sysB_ok (congrArg (fun z : AlG => z.2) e)⟩
  keeps := fun w h h' c k => ⟨(He.hookX n fa fn ts tf noSys).keeps w h h' c.x k, let ⟨o, e, d⟩ := c.sys; ⟨o, k _ _ e, d⟩⟩
theorem obsG_eq {n : Nat} {fa : List He.Fa} {fn : List He.DefD} {ts : List He.Tab} {tf : List He.Defn} {g : Addr → Option Obj} {s : Shared} (h : ∀ a, g a = s.heap.get? a) : obsG n fa fn ts tf g = (hookG n fa fn ts tf).obs s := by
  have e : g = s.heap.get? := funext h
  rw [e] <;> rfl
/-! ### the walk -/
/-- what the head must tell of the law's own def -/
structure LawG (l : PySem.W.OpenLaw) (w : World) (K : PySem.W.Frag) (k n : Nat) (x : Str) (mg : Str → Option Value) (fa : Addr) (h : Heap) (fd : FuncData) (cs : List (Addr × Addr)) (sp : Sp) : Prop where
  bare : ∀ p ∈ cs, h.get? p.2 = some { cls := .none, data := .fields #[] }
  out : ∀ p ∈ cs, K.lookup p.2 = none
  hd : ∀ p ∈ cs, PySem.W.CodeHd h p.1 p.2
  nsys : K.lookup sysModules = none
  binds : ∀ (s : Shared) (u : Value), BindsTo s fd ⟨[u], []⟩ [(x, u)]
  holds : ∀ (H : Hp) (a : Addr) (ns : List Int), ns.length ≤ n → (∀ z ∈ ns, Builtin.Int.intBits z ≤ 1048576) → (∀ p ∈ cs, H p.2 = some (.tbl #[])) → SysOk H →
    SqL K H a (ns.map V.int) → sp [.ref a] H (fun v _ => v = .bl true) fun _ _ _ => False
  ok : ∀ base : Heap, K.In base → base.Ns mainGlobals mg → (∀ p ∈ cs, TabB base mg p.1 p.2) → FnG l.prog w K mg base CX0 k fa fd [x] sp
theorem walk_ofG {l : PySem.W.OpenLaw} {n k : Nat} {q : Program} {loose : List Str} {XP : (Str → Option Value) → Heap → Prop} {YP : World → Heap → Prop} {d : DefRec} {x : Str}
    (hn : l.most = some n) (hn2 : n ≤ sizeLine) (hdf : d.params.defaults = []) (hr : Room k callerA)
    (hsys : ∀ (w : World) (h : Heap), YP w h → ∃ o, h.get? sysModules = some o ∧ ∃ es ep, o.data = .dict es ep)
    (F : ∀ (w : World) (mg : Str → Option Value) (fa : Addr) (h : Heap), YP w h → h.Ns mainGlobals mg → mg d.name = some (.ref fa) →
      ∃ (K : PySem.W.Frag) (fd : FuncData) (cs : List (Addr × Addr)) (sp : Sp), K.In h ∧ LawG l w K k n x mg fa h fd cs sp) :
    PySem.W.WalkO q loose XP YP l.row.toRowW d [] (fun f vs => PySem.call f vs) := by
  refine Att.attach_callB hn hdf ?_
  intro w s₀ s₁ mg mb fa o pm cd doc a vs ns G Y _ _ _ hmg hobj hints hlen hbits hg
  obtain ⟨K, fd, cs, sp, KX, L⟩ := F w mg fa _ Y G.T.g hmg
  obtain ⟨osys, hs, hd⟩ := hsys w _ Y
  exact law_callG (osys := osys) KX G.T.g G.T.b G.T.builtins G.T.nolimit hg L.bare L.out L.hd G.T.bmain hs hd L.nsys hobj hints (Nat.le_trans hlen hn2) hr L.ok L.binds
    fun H h1 h2 h3 => L.holds H a ns hlen hbits h1 h2 h3
/-- all facts by place -/
theorem saysG_nosys {fa : List He.Fa} {fn : List He.DefD} {ts : List He.Tab} {tf : List He.Defn} {w : World} {h : Heap} {K : PySem.W.Frag} (c : He.SaysX fa fn ts tf noSys w h K) : K.lookup sysModules = none := Option.isNone_iff_eq_none.mp c.more
end AL
set_option Elab.async false
set_option linter.all false
set_option maxRecDepth 100000
set_option maxHeartbeats 4000000
namespace AL
open PySem PySem.Spec PyProof.Rows L2
section
variable {X : Cx}
/-- y = {k: v for .. in ..}, the new dict stored while the block stands -/
theorem ps_setDc {i : Nat} {y : Str} {py : Pos} {kx vx tg iter : Expr} {scope : Scope} {own : List (Str × Nat)} {pos spos : Pos} {wi : TI} {g : TG} {tk tv : TE}
    (hc : X.calm = true) (hN : X.N.Nodup) (hy : X.N[i]? = some y) (hloc : X.env.scope.names.lookup y = some .local)
    (hsw : swapsWith (.DictComp kx vx [⟨tg, iter, [], 0⟩] scope pos) (some (.Name y py)) spos.line X.env = pure true)
    (hi : PI X tg iter wi) (ok : BlkOk X.N X.env.scope scope own)
    (hg : ∀ (s1 : Shared) (H1 : Hp) (C : Addr) (cl : List (Str × Addr)) (fq : List Addr), PG (X.blk s1 H1 scope (compEnvC scope cl C X.env) fq) tg g)
    (hk : ∀ (s1 : Shared) (H1 : Hp) (C : Addr) (cl : List (Str × Addr)) (fq : List Addr), PE (X.blk s1 H1 scope (compEnvC scope cl C X.env) fq) kx tk)
    (hv : ∀ (s1 : Shared) (H1 : Hp) (C : Addr) (cl : List (Str × Addr)) (fq : List Addr), PE (X.blk s1 H1 scope (compEnvC scope cl C X.env) fq) vx tv)
    (hs : ∀ x, foldedSetIterable iter X.env x = pure x := by intro _; rfl) :
    PS X (.Assign [.Name y py] (.DictComp kx vx [⟨tg, iter, [], 0⟩] scope pos) spos) (tAsg (tDc wi g tYes tk tv (own.map (·.2))) (gName i)) := by
  constructor
  intro pins s σ H D I h
  rw [exec_Assign_Name_used _ _ _ _ hsw]
  apply wpAny_bind
  apply wpAny_standAt
  apply wpAny_bind
  show wpAny _ X.A (do let _ ← comprehension (.DictComp kx vx [⟨tg, iter, [], 0⟩] scope pos) scope X.env (firstIterPos [⟨tg, iter, [], 0⟩] pos) newDict false (eval iter X.env) (some (assign (.Name y py) X.env))) _ _ s
  have h' : tDc wi g tYes tk tv (own.map (·.2)) σ H (fun x H1 => gName i x σ H1 D.nx) := h
  apply wpAny_bind
  refine thn (dc_core (Qf := fun _ s1 => SP X pins D .next s1) hc hN I hi ok hg (fun _ _ _ _ _ => pts_nil) hk hv hs h' ?_) fun _ _ q => wpAny_pure (wpAny_pure q)
  intro L C s1 m H1 I1 q hn f
  obtain ⟨f0, f1, f2, f3, f4, f5⟩ := f
  show wpAny _ _ (assign (.Name y py) X.env (.ref L)) _ _ _
  refine wpAny_assign_Name (store_ok2 (v := V.ref L) I1 hN hy (.inl hloc) rfl ?_ (.inr hloc))
  rintro s2 I2 ⟨a, sb, ha⟩
  have nC : C ≠ a := ha.elim (fun z => z ▸ f1) fun z e => f4 y a z e.symm
  refine ⟨m, hn.sameBut sb nC, ?_⟩
  intro h3 sb3
  exact ⟨_, H1, I2.turned (t' := s2.toks) (fun b o hb e => (sb3.2 b hb).trans e) f0 f1 f3 f4 f5, q⟩
theorem sw_dc {kx vx : Expr} {gs : List Comprehension} {scope : Scope} {pos py : Pos} {y : Str} {l : Nat} {env : Env} (h1 : env.scope.kind = .function) (h2 : env.scope.names.lookup y = some .local) (h3 : (py.line == pos.line) = true)
    (h4 : (scope.names.any fun (n, k) => n == y && (k == .local || k == .cell)) = false) : swapsWith (.DictComp kx vx gs scope pos) (some (.Name y py)) l env = pure true := by
  have e1 : env.kindOf y = some .local := h2
  have e2 : env.blockKind = .function := by
    unfold Env.blockKind
    rw [h1]
    rfl
  unfold swapsWith
  simp only [e2, e1, h4, Expr.pos, h3]
  rfl
end
end AL
set_option Elab.async false
set_option linter.all false
set_option maxRecDepth 100000
set_option maxHeartbeats 4000000
namespace AL
open PySem PySem.Spec PyProof.Rows L2
section
variable {X : Cx} {pins : List (Addr × Obj)} {σ : L2.St} {H : Hp} {s : Shared}
/-- [*d, ..], d a dict: its keys -/
def tStarD (te : TE) (t : TA) : TA := fun σ H Q => te σ H fun x H1 => ∃ a kvs, x = V.ref a ∧ Rd H1 a (.dK kvs) ∧ t σ H1 fun ys H2 => Q ((kvs.map fun p => kV p.1) ++ ys) H2
theorem star_dict {a : Addr} {kvs : List (Key × V)} {E : Value → Shared → Prop} {Q : List Value → Shared → Prop} (hc : X.calm = true) (I : Inv X pins σ H s) (hd : Rd H a (.dK kvs))
    (hQ : ∀ us s', Inv X pins σ H s' → Vals (kvs.map fun p => kV p.1) us → Q us s') : PySem.W.StarOf (model X.prog X.w) X.A E (.ref a) Q s := by
  obtain ⟨z, lo, vs, rel, dd⟩ := dk_rd I.hok hd
  obtain ⟨ep, hat⟩ := dd.dictAt
  have hl : vs.length ≤ sizeLine := by rw [← KV.length rel]; exact z
  have ek : (kvs.map fun p => kV p.1) = vs.map fun p => kV p.1 := by
    have q := congrArg (List.map kV) (KV.keys rel)
    rw [List.map_map, List.map_map] at q
    exact q
  have run : wpAny (model X.prog X.w) X.A (collect (.ref a)) Q E s :=
    PySem.W.kdu_collect (PySem.W.kdl_dict (knd := mixKind X.prog X.w) (kvs := vs) (ep := ep) lo) (I.ok.hd hc) hat hl fun h' tk acc hk hacc =>
      hQ acc.toList _ (I.kept (t' := tk) hk) (by
        rw [ek]
        exact keys_at (by rw [Array.length_toList, hacc.1]) fun j v e => hacc.2 j v (by rw [← Array.getElem?_toList]; exact e))
  have ty := dd.typeIs
  unfold PySem.W.StarOf notIterableAtAll
  exact wpAny_bind (wpAny_specialOf ty F.slot_dict_iter.lookup (wpAny_pure ⟨rfl, run⟩))
end
section
variable {X : Cx} {e : Expr} {es : List Expr} {te : TE} {t : TA} {p : Pos}
theorem pa_starD (hc : X.calm = true) (he : PE X e te) (hr : PA X es t) (hs : starEach (.Starred e p :: es) X.env = (true, eval e X.env) :: starEach es X.env := by rfl) : PA X (.Starred e p :: es) (tStarD te t) := by
  refine ⟨fun pos pins s σ H Q I h => PySem.W.items_star (thn (he.run pins s σ H _ I h) fun v s1 ⟨y, H1, I1, ry, a, kvs, ey, hx, q⟩ => ?_) hs⟩
  subst ey
  obtain rfl : v = Value.ref a := ry
  exact star_dict hc I1 hx fun us s2 I2 rv => thn (hr.run pos pins s2 σ H1 _ I2 q) fun ws s3 ⟨vs, H3, I3, r3, q3⟩ => ⟨_, H3, I3, rv.append r3, q3⟩
/-- a != b, two dicts of the same keys, their values equal -/
def rNeDV (K : PySem.W.Frag) : R2 := fun x y H Q => ∃ n a b ks ls, n ≤ 60 ∧ x = .ref a ∧ y = .ref b ∧ H a = some (.dK ks) ∧ H b = some (.dK ls) ∧ ks.length = ls.length ∧ (∀ p ∈ ks, ∃ u, valV ls p.1 = some u ∧ EqV K H n p.2 u) ∧ Q (.bl false) H
theorem op_neDV (hu : X.A.units + 64 < cLine) : OpR X (compareOp .NotEq) (rNeDV X.K) := by
  intro pins s σ H x y v u Q I rx ry h
  obtain ⟨n, a, b, ks, ls, hn, rfl, rfl, ea, eb, hl, hp, q⟩ := h
  cases (show v = Value.ref a from rx)
  cases (show u = Value.ref b from ry)
  have oka : ObjOk X.prog X.w H s.heap a (.dK ks) := I.hok a _ ea
  have okb : ObjOk X.prog X.w H s.heap b (.dK ls) := I.hok b _ eb
  obtain ⟨_, ya, va, ra, da⟩ := oka
  obtain ⟨_, yb, vb, rb, db⟩ := okb
  have hv : va.length = vb.length := by rw [← KV.length ra, ← KV.length rb]; exact hl
  refine wpAny_richCompare_same_room (op := .NotEq) da.typeIs db.typeIs F.slot_dict_ne (wpAny_call_entry F.slot_dict_ne da.typeIs F.entry_dict_ne ?_
    (F.args_dict_ne_2 _ _)) (by omega)
  refine wpAny_bind (m := Builtin.Dict.dictSlotArgs "__ne__" ⟨[.ref a, .ref b], []⟩) ?_
  unfold Builtin.Dict.dictSlotArgs
  refine wpAny_bind (wpAny_notOrdered_dict da.typeIs (wpAny_pure (a := (Value.ref a, Value.ref b)) ?_))
  refine wpAny_bind (wpAny_isInstance (T := "dict") db.typeIs F.sub_dict_dict ?_)
  rw [if_neg (by decide)]
  refine wpAny_bind (wpAny_pure (wpAny_bind (wpAny_pure (wpAny_bind (PySem.W.samePairsP (knd := mixKind X.prog X.w) (r := true) ya yb da db
    (fun _ => hits_run (eqV_run I n X.A.in1 (by show X.A.units + 1 + n < cLine; omega)) rb ra hp) ?_)))))
  refine wpAny_pure ⟨_, rfl, fun z => ?_, .bl false, H, I, ?_, q⟩
  · cases z
  · show Value.bool _ = Value.bool false
    rw [hv]
    simp
end
/-! ### xs[:] = ys -/
theorem bounds_all (n : Nat) : sliceBounds none none none n = (0, (n : Int), 1) := by
  simp [sliceBounds]
section
variable {prog : Program} {w : World} {A : Around} {E : Value → Shared → Prop} {s : Shared}
theorem setItem_all {l b sl : Addr} {items new : Array Value} {n n2 : Nat} {Q : Unit → Shared → Prop}
    (e : s.heap.get? l = some ⟨.type "list", none, .seq items n, #[]⟩) (e2 : s.heap.get? b = some ⟨.type "list", none, .seq new n2, #[]⟩) (hne : l ≠ b)
    (hs : s.heap.IsSliceOf sl .none .none .none) (hsz : items.size + new.size ≤ sizeLine)
    (h : Q () { s with heap := s.heap.update l (Obj.mapSeq fun xs => xs.extract 0 0 ++ new ++ xs.extract items.size xs.size) }) :
    wpAny (model prog w) A (setItem (.ref l) (.ref sl) (.ref b)) Q E s := by
  have il : s.heap.IsList l items := IsL.isList e
  have ib : s.heap.IsList b new := IsL.isList e2
  obtain ⟨os, hos, hcs, hds⟩ := id hs
  have tS : s.TypeIs (.ref sl) "slice" := ⟨os, hos, hcs⟩
  have same : Builtin.List.listSameRef (.ref l) (.ref b) = false := beq_eq_false_iff_ne.mpr hne
  have hz2 : ((fun xs : Array Value => xs.extract 0 0 ++ new ++ xs.extract items.size xs.size) items).size ≤ sizeLine + 1 := by
    show (items.extract 0 0 ++ new ++ items.extract items.size items.size).size ≤ _
    simp only [Array.size_append, Array.size_extract]
    omega
  unfold setItem
  refine wpAny_holding (wpAny_bind (wpAny_sequenceKey il.typeIs (by decide) (wpAny_bind (wpAny_callSpecial?_slot (name := "__setitem__") il.typeIs slot_list_setitem
    (wpAny_call_entry slot_list_setitem il.typeIs entry_list_setitem ?_ (args_list_setitem _ _ _))))))
  refine wpAny_bind (m := Builtin.List.listSubscript? (.ref sl)) ?_
  unfold Builtin.List.listSubscript?
  refine wpAny_bind (wpAny_specialOf tS slice_no_index ?_)
  rw [if_pos (by rfl)]
  refine wpAny_pure (wpAny_bind (m := typeOf (.ref sl)) (wpAny_typeOf tS ?_))
  rw [if_neg (by decide), listSliceParts_eq]
  refine wpAny_bind (wpAny_bind (wpAny_field hos hds (x := .none) rfl (wpAny_bind (wpAny_listPart .none ?_))))
  rw [if_neg (show ¬ ((rawPart none == rawInt 0) = true) from Bool.false_ne_true)]
  refine wpAny_bind (wpAny_field hos hds (x := .none) rfl (wpAny_bind (wpAny_listPart .none (wpAny_bind (wpAny_field hos hds (x := .none) rfl (wpAny_bind (wpAny_listPart .none (wpAny_pure ?_))))))))
  dsimp only
  rw [if_neg (by rw [same]; exact Bool.false_ne_true)]
  refine wpAny_bind (m := Builtin.List.listAllItems (.ref b) "must assign iterable to extended slice") ?_
  unfold Builtin.List.listAllItems
  refine wpAny_bind (wpAny_typeOf ib.typeIs ?_)
  rw [if_pos (by decide)]
  unfold Builtin.List.listItems
  refine wpAny_bind (wpAny_seqItems e2 rfl (wpAny_pure (wpAny_bind (wpAny_bind (wpAny_seqItems e rfl (wpAny_pure ?_))))))
  have parts := (sliceIndices_raw none none none items.size (by simp)).trans (congrArg (pure : Int × Int × Int → Sem (Int × Int × Int)) (bounds_all items.size))
  refine wpAny_bind (wpAny_of_eq parts ?_)
  dsimp only
  rw [if_pos (by decide)]
  refine wpAny_bind (wpAny_rule ?_)
  rw [if_neg (by rw [notLongL hsz]; exact Bool.false_ne_true)]
  have mx : (max (0 : Int) (items.size : Int)).toNat = items.size := by omega
  have up : wpAny (model prog w) A.in1 (updateSeq l fun xs => xs.extract 0 0 ++ new ++ xs.extract items.size xs.size) (fun _ s' => wpAny (model prog w) A.in1 (do
      letGo (items.extract 0 items.size).toList.reverse
      ret Value.none) (fun fin s' => ∃ v, fin = Fin.done (Flow.ret v) ∧ wpAny (model prog w) A (pure ()) Q E s') E s') E s := by
    refine wpAny_updateSeq (hz := Nat.le_trans (Nat.le_add_right _ _) hsz) e rfl ?_
    refine wpAny_bind (wpAny_letGo (wpAny_pure ⟨.none, rfl, wpAny_pure ?_⟩))
    exact h
  rw [mx]
  exact wpAny_bind up
end
section
variable {X : Cx} {pins : List (Addr × Obj)} {s : Shared} {σ : L2.St} {H : Hp}
theorem set_all {l b sl : Addr} {xs ys : List V} {Q : Unit → Shared → Prop} (I : Inv X pins σ H s) (hH : H l = some (.lst xs)) (hB : H b = some (.lst ys)) (hne : l ≠ b) (hs : s.heap.IsSliceOf sl .none .none .none)
    (hz : xs.length + ys.length ≤ sizeLine) (h : ∀ s', Inv X pins σ (upd H l (.lst ys)) s' → Q () s') : wpAny (model X.prog X.w) X.A (setItem (.ref l) (.ref sl) (.ref b)) Q X.xe s := by
  obtain ⟨z1, its, n, r, hl, e⟩ := I.lstM hH
  obtain ⟨z2, its2, n2, r2, hl2, e2⟩ := I.lstM hB
  refine setItem_all e e2 hne hs (by rw [List.size_toArray, List.size_toArray]; omega) (h _ ?_)
  refine I.lset (its' := its2) (t' := s.toks) hH e ?_ r2 z2
  simp
def gAll (to : TE) : TG := fun v σ H Q => to σ H fun x H1 => ∃ a b xs ys, x = V.ref a ∧ v = V.ref b ∧ a ≠ b ∧ H1 a = some (.lst xs) ∧ H1 b = some (.lst ys) ∧ xs.length + ys.length ≤ sizeLine ∧ Q σ (upd H1 a (.lst ys))
/-- o[:] = a list -/
theorem pg_all {o : Expr} {to : TE} {p2 pos : Pos} (ho : PE X o to) : PG X (.Subscript o (.Slice none none none p2) pos) (gAll to) := by
  refine ⟨fun pins s σ H v u Q I r h => ?_⟩
  rw [assign_Subscript]
  refine wpAny_bind (wpAny_holding (thn (ho.run pins s σ H _ I h) fun ov s1 ⟨x, H1, I1, r1, a, b, xs, ys, ex, ev, hne, ha, hb, hz, q⟩ => ?_))
  subst ex ev
  obtain rfl : ov = Value.ref a := r1
  obtain rfl : u = Value.ref b := r
  refine wpAny_bind (wpAny_holding (wpAny_Slice ?_))
  simp only [evalPart_none]
  refine wpAny_pure (wpAny_pure (wpAny_pure ?_))
  have I2 : Inv X pins σ H1 { s1 with heap := s1.heap.push { cls := .type "slice", data := .fields #[.none, .none, .none] } } := I1.kept (t' := s1.toks) fun b ob q => Heap.get?_push_of_some _ q
  exact wpAny_bind (wpAny_standAt (wpAny_bind (wpAny_holding (set_all I2 ha hb hne (Heap.IsSliceOf.new ..) hz fun s' I' => wpAny_release ⟨σ, _, I', q⟩))))
end
end AL
set_option Elab.async false
set_option linter.all false
set_option maxRecDepth 100000
set_option maxHeartbeats 4000000
namespace AL
open PySem PySem.Spec PyProof.Rows L2
open SrtO (Swo Srtd Stb)
/-! ### the order of pairs of texts -/
def lexS (p q : Str × Str) : Bool := if p.1 = q.1 then decide (sLt p.2 q.2) else decide (sLt p.1 q.1)
theorem lexS_iff {p q : Str × Str} : lexS p q = true ↔ sLt p.1 q.1 ∨ (p.1 = q.1 ∧ sLt p.2 q.2) := by
  unfold lexS
  by_cases e : p.1 = q.1
  · rw [if_pos e, decide_eq_true_eq]
    constructor
    · exact fun h => .inr ⟨e, h⟩
    · rintro (h | ⟨_, h⟩)
      · rw [e] at h
        exact (sLt_irrefl _ h).elim
      · exact h
  · rw [if_neg e, decide_eq_true_eq]
    constructor
    · exact .inl
    · rintro (h | ⟨h, _⟩)
      · exact h
      · exact (e h).elim
theorem lexS_no {p q : Str × Str} : lexS p q = false ↔ ¬ (sLt p.1 q.1 ∨ (p.1 = q.1 ∧ sLt p.2 q.2)) := by
  rw [← lexS_iff]
  cases lexS p q <;> simp
theorem swo_lexS {α : Type} (k : α → Str × Str) : Swo fun v u => lexS (k v) (k u) := by
  refine ⟨fun x y h => ?_, fun x y z h1 h2 => ?_⟩
  · have a := lexS_iff.mp h
    refine lexS_no.mpr ?_
    rintro (b | ⟨b, b'⟩)
    · rcases a with a | ⟨a, _⟩
      · exact sLt_asymm a b
      · rw [a] at b
        exact sLt_irrefl _ b
    · rcases a with a | ⟨_, a⟩
      · rw [b] at a
        exact sLt_irrefl _ a
      · exact sLt_asymm a b'
  · have a := lexS_no.mp h1
    have b := lexS_no.mp h2
    refine lexS_no.mpr ?_
    have a1 : ¬ sLt (k y).1 (k x).1 := fun z => a (.inl z)
    have b1 : ¬ sLt (k z).1 (k y).1 := fun w => b (.inl w)
    rintro (c | ⟨c, c'⟩)
    · exact sLt_trans' a1 b1 c
    · rw [c] at b1
      have e : (k y).1 = (k x).1 := sLt_tri b1 a1
      exact sLt_trans' (fun w => a (.inr ⟨e, w⟩)) (fun w => b (.inr ⟨c.trans e.symm, w⟩)) c'
def IsTT (h : Heap) (v : Value) (x y : Str) : Prop := ∃ a o t u n, v = .ref a ∧ h.get? a = some o ∧ o.cls = .type "tuple" ∧ o.data = .seq #[.str x t, .str y u] n
theorem IsTT.keeps {h h' : Heap} {v : Value} {x y : Str} (p : IsTT h v x y) (k : ∀ b o, h.get? b = some o → o.cls = .type "tuple" → h'.get? b = some o) : IsTT h' v x y := by
  obtain ⟨a, o, t, u, n, e, ho, hc, hd⟩ := p
  exact ⟨a, o, t, u, n, e, k _ _ ho hc, hc, hd⟩
theorem firstsT {h : Heap} : ∀ {vs : List Value}, (∀ v ∈ vs, ∃ x y, IsTT h v x y) → ∃ fs : List Value, PySem.W.KatTups h vs fs ∧ fs.length = vs.length ∧ ∀ f ∈ fs, ∃ x t, f = Value.str x t
  | [], _ => ⟨[], PySem.W.KatTups.nil, rfl, fun _ hm => by simp at hm⟩
  | v :: vs, hp => by
    obtain ⟨fs, h1, h2, h3⟩ := firstsT (vs := vs) fun v' hm => hp v' (List.mem_cons_of_mem _ hm)
    obtain ⟨x, y, a, o, t, u, n, rfl, ho, hc, hd⟩ := hp v List.mem_cons_self
    exact ⟨.str x t :: fs, PySem.W.KatTups.cons ho hc hd rfl h1, by rw [List.length_cons, List.length_cons, h2], fun f hm => (List.mem_cons.mp hm).elim (fun e => ⟨x, t, e⟩) (h3 f)⟩
section
variable {prog : Program} {w : World} {A : Around} {E : Value → Shared → Prop} {s : Shared}
theorem tt_cmp {vs : List Value} {k : Value → Str × Str} (hp : ∀ v ∈ vs, IsTT s.heap v (k v).1 (k v).2) : SrtO.Cmp prog w A s (tuples' true) (fun p => p.1 ∈ vs) (SrtO.lt2 fun v u => lexS (k v) (k u)) := by
  intro p q hm hm'
  have h1 := hp _ hm
  have h2 := hp _ hm'
  show wpAny (model prog w) A (keyLt' (tuples' true) p.1 q.1) (fun r s' => s' = s ∧ r = lexS (k p.1) (k q.1)) (fun _ _ => False) s
  generalize k p.1 = P at h1 ⊢
  generalize k q.1 = R at h2 ⊢
  obtain ⟨x, y⟩ := P
  obtain ⟨x', y'⟩ := R
  obtain ⟨a, o, t, u, n, e, ho, hc, hd⟩ := h1
  obtain ⟨a', o', t', u', n', e', ho', hc', hd'⟩ := h2
  dsimp only at hd hd'
  rw [e, e']
  refine PySem.W.kat_lt ho hd ho' hd' (show PySem.W.KatLex prog w A true (decide (2 < 2)) _ [(.str x t, .str x' t'), (.str y u, .str y' u')] 0 s from PySem.W.kat_cons (SeqAt.EqAt.str_str x t x' t' prog w _ _ (PySem.W.kat_go (fun e1 => ?_) fun e1 => ?_)))
  · have ex : x = x' := by simpa using e1
    refine PySem.W.kat_yes (PySem.W.kat_cons (SeqAt.EqAt.str_str y u y' u' prog w _ _ (PySem.W.kat_go (fun e2 => ?_) fun e2 => ?_)))
    · have ey : y = y' := by simpa using e2
      refine PySem.W.kat_yes (PySem.W.kat_nil ⟨rfl, ?_⟩)
      refine (lexS_no.mpr ?_).symm
      rintro (z | ⟨_, z⟩)
      · exact sLt_irrefl _ (show sLt x' x' from ex ▸ z)
      · exact sLt_irrefl _ (show sLt y' y' from ey ▸ z)
    · have e3 : lexS (x, y) (x', y') = decide (sLt y y') := if_pos ex
      exact PySem.W.kat_no (PySem.W.kat_one _ _ (PySem.P.lt_str (show s = s ∧ decide (sLt y y') = lexS (x, y) (x', y') from ⟨rfl, e3.symm⟩)))
  · have ex : ¬ x = x' := by simpa using e1
    have e3 : lexS (x, y) (x', y') = decide (sLt x x') := if_neg ex
    exact PySem.W.kat_no (oneLt_str (show s = s ∧ decide (sLt x x') = lexS (x, y) (x', y') from ⟨rfl, e3.symm⟩))
theorem tt_sortable {a : Addr} {vs : List Value} {k : Value → Str × Str} (h0 : 0 < vs.length) (hp : ∀ v ∈ vs, IsTT s.heap v (k v).1 (k v).2) (ha : ∀ o, s.heap.get? a = some o → o.cls ≠ .type "tuple") : SrtO.SortableO prog w A s a vs fun v u => lexS (k v) (k u) := by
  intro h' keep
  have hp' : ∀ v ∈ vs, IsTT h' v (k v).1 (k v).2 := fun v hm => (hp v hm).keeps fun b o e c => keep b o (fun z => by subst z; exact ha o e c) e
  obtain ⟨fs, h1, h2, h3⟩ := firstsT fun v hm => ⟨_, _, hp' v hm⟩
  refine ⟨tuples' true, fun Q E hq => PySem.W.kat_kind (T := .type "str") h1 (by omega) (fun f hm => ?_) (by rfl) ?_, tt_cmp hp'⟩
  · obtain ⟨x, t, rfl⟩ := h3 f hm
    exact PySem.W.Looks.now
  · have e : (Value.type "str" != Value.type "tuple") = true := by decide +kernel
    rw [e]
    exact hq
theorem sorted_tt {l : Addr} {vs : List Value} {k : Value → Str × Str} {Q : Value → Shared → Prop} (hl : s.heap.IsList l vs.toArray) (hz : vs.length ≤ sizeLine) (hp : ∀ v ∈ vs, IsTT s.heap v (k v).1 (k v).2)
    (h : ∀ (h' : Heap) (d : Addr) (out : List Value), Srtd (fun v u => lexS (k v) (k u)) out → out.Perm vs → (∀ b o, s.heap.get? b = some o → h'.get? b = some o) → s.heap.objs.size ≤ d → (∃ n, h'.get? d = some (seqObj "list" out.toArray n)) →
      Q (.ref d) { s with heap := h' }) : wpAny (model prog w) A (call (.builtin "sorted") [.ref l]) Q E s := by
  refine SrtO.sorted_ord (swo_lexS k) hl hz (fun h2 h₁ a ha kk => ?_) fun out hs hb => h _ _ out hs hb.perm (fun b o e => PyProof.Rows.sortedAll_old e) (Nat.le_succ _) (PyProof.Rows.sortedAll_at s.heap vs out.toArray)
  refine tt_sortable (s := { s with heap := h₁ }) (by omega) (fun v hm => (hp v hm).keeps fun b o e _ => (kk b o e).2) fun o e c => ?_
  have e' : some o = some (seqObj "list" vs.toArray 0) := e.symm.trans ha
  cases e'
  exact absurd (Value.type.inj c) (by decide)
end
section
variable {X : Cx}
/-- sorted(l), l a list of pairs of texts -/
def rSortTT (K : PySem.W.Frag) : List V → Hp → VK → Prop := fun vs H Q => ∃ (a : Addr) (ts : List Addr) (k : Addr → Str × Str), vs = [V.ref a] ∧ SqL K H a (ts.map V.ref) ∧ (∀ t ∈ ts, H t = some (.tup [.str (k t).1, .str (k t).2])) ∧
  ∀ (us : List Addr) (p : Addr), us.Perm ts → us.Pairwise (fun x y => lexS (k y) (k x) = false) → H p = none → Q (.ref p) (upd H p (.lst (us.map V.ref)))
def refOf : Value → Addr
  | .ref a => a
  | _ => 0
theorem cr_sortTT : CallR X (.builtin "sorted") (rSortTT X.K) := by
  intro pins s σ H vs us Q I r h
  obtain ⟨a, ts, k, rfl, hs, hx, q⟩ := h
  obtain ⟨its, rv, hl, hz⟩ := I.list hs
  obtain ⟨u, rfl, ru⟩ := vals1 r
  obtain rfl : u = Value.ref a := ru
  have ei := refs_at rv
  subst ei
  refine sorted_tt (k := fun u => k (refOf u)) hl.isList (by rw [List.length_map] at hz ⊢; exact hz) (fun v hv => ?_) fun h' d out h1 h2 kp hd hn => ?_
  · obtain ⟨t, ht, rfl⟩ := List.mem_map.mp hv
    obtain ⟨_, its2, r2, o, ho, hc, n, hdt⟩ := I.hok _ _ (hx t ht)
    obtain ⟨u1, u2, rfl, ri, rj⟩ := vals2 r2
    obtain ⟨t1, rfl⟩ := ri
    obtain ⟨t2, rfl⟩ := rj
    exact ⟨t, o, t1, t2, n, rfl, ho, hc, hdt⟩
  · have h3 : ∀ u ∈ out, u = Value.ref (refOf u) := fun u hu => by
      obtain ⟨t, _, rfl⟩ := List.mem_map.mp (h2.mem_iff.mp hu)
      rfl
    have eo : out = (out.map refOf).map Value.ref := by
      rw [List.map_map]
      have : out.map (fun u => u) = out.map (Value.ref ∘ refOf) := List.map_congr_left fun u hu => h3 u hu
      simpa using this
    have pm : (out.map refOf).Perm ts := by
      have := h2.map refOf
      rw [List.map_map] at this
      have e : ts.map (refOf ∘ Value.ref) = ts := by
        have e2 : ts.map (refOf ∘ Value.ref) = ts.map (fun t => t) := List.map_congr_left fun t _ => rfl
        simpa using e2
      rwa [e] at this
    obtain ⟨n, hn⟩ := hn
    have vv : Vals ((out.map refOf).map V.ref) out := by
      have go : ∀ l : List Addr, Vals (l.map V.ref) (l.map Value.ref) := fun l => by
        induction l with
        | nil => exact .nil
        | cons a l ih => exact .cons rfl ih
      have := go (out.map refOf)
      rw [← eo] at this
      exact this
    refine ⟨.ref d, upd H d (.lst ((out.map refOf).map V.ref)), I.laid (t' := s.toks) kp hd ⟨?_, out, n, vv, hn⟩, rfl, q _ d pm (List.pairwise_map.mpr h1) (I.hok.fresh hd)⟩
    rw [List.length_map, pm.length_eq]
    rw [List.length_map] at hz
    exact hz
/-- dict(zip(a, b)): two lists of one length, the first of texts -/
def tDictZip (K : PySem.W.Frag) (ta : TA) : TE := fun σ H Q => ta σ H fun vs H1 => ∃ (a b : Addr) (ks : List Str) (ys : List V), vs = [.ref a, .ref b] ∧ SqL K H1 a (ks.map V.str) ∧ SqL K H1 b ys ∧ ks.length = ys.length ∧
  ∀ p, H1 p = none → Q (.ref p) (upd H1 p (.dK (mergeK [] ((ks.map Sum.inr).zip ys))))
theorem kv_zip : ∀ {ks : List Str} {ys : List V} {us : List Value}, Vals ys us → KV ((ks.map (Sum.inr : Str → Key)).zip ys) ((ks.map (Sum.inr : Str → Key)).zip us)
  | [], _, _, _ => .nil
  | _ :: _, [], _, r => by cases r; exact .nil
  | k :: ks, y :: ys, _, r => by
    cases r with
    | cons h t => exact .cons ⟨rfl, h⟩ (kv_zip t)
theorem pe_dictZip {e e2 : Expr} {ta : TA} {p p2 q pos : Pos} (hc : X.calm = true) (hg : Gl X "dict") (hm : X.mg "dict" = none) (hg2 : Gl X "zip") (hm2 : X.mg "zip" = none) (ha : PA X [e, e2] ta)
    (hb : bootBuiltins "dict" = some (.type "dict") := by decide +kernel)
    (he : starEach [.Call (.Name "zip" p2) [e, e2] [] q] X.env = (false, eval (.Call (.Name "zip" p2) [e, e2] [] q) X.env) :: starEach [] X.env := by rfl)
    (hs : starEach [e, e2] X.env = (false, eval e X.env) :: starEach [e2] X.env := by rfl) (hpl : (backTo q (starEach [e2] X.env)).any (·.1) = false := by rfl) :
    PE X (.Call (.Name "dict" p) [.Call (.Name "zip" p2) [e, e2] [] q] [] pos) (tDictZip X.K ta) := by
  refine ⟨fun pins s σ H Q I h => ?_⟩
  refine wpAny_Call_Name_kw (ld_blt I hg hm hb ?_)
  refine PyProof.Rows.callWith_type1 ?_ he (by rfl)
  rw [he]
  show wpAny _ _ (spliced ((false, eval (.Call (.Name "zip" p2) [e, e2] [] q) X.env) :: backTo pos (starEach [] X.env))) _ _ s
  refine Calls.spliced_cons (wpAny_Call_Name_kw (ld_blt I hg2 hm2 boot_zip (PyProof.Rows.callWith_type1 (thn (ha.run q pins s σ H _ I h) fun us s1 ⟨vs, H1, I1, r1, a, b, ks, ys, ex, hqx, hqy, hl, q1⟩ => ?_) hs hpl)))
  subst ex
  obtain ⟨v1, v2, rfl, ra, rb⟩ := vals2 r1
  obtain rfl : v1 = Value.ref a := ra
  obtain rfl : v2 = Value.ref b := rb
  obtain ⟨its, rv, p1, z1⟩ := I1.list hqx
  obtain ⟨its2, rv2, p2', z2⟩ := I1.list hqy
  have la := p1.lt
  have lb := p2'.lt
  refine call_zip_2 p1.isList p2'.isList fun h' hz hTI hTO h1 h2 hsz hk => Calls.spliced_nil ?_
  have I2 : Inv X pins σ H1 { s1 with heap := h' } := I1.kept (t' := s1.toks) hk
  have l1 : its.length = ks.length := by
    have := rv.length
    rw [List.length_map] at this
    exact this.symm
  have l2 : its2.length = ys.length := rv2.length.symm
  rw [List.length_map] at z1
  have lz : ((ks.map (Sum.inr : Str → Key)).zip its2).length = ks.length := by
    rw [List.length_zip, List.length_map]
    omega
  refine PySem.call_dict_pairs (knd := mixKind X.prog X.w) (s := { s1 with heap := h' }) (kvs := (ks.map (Sum.inr : Str → Key)).zip its2) (PySem.PairArg.zip _ _ _ _ _ a b (PySem.W.ktu_apart s1.heap.objs.size a b la lb) its.toArray its2.toArray) (I2.ok.hd hc)
    ⟨hz, hTI, ⟨_, _, hTO⟩, h1, h2, (p1.isList).at fun o e => hk _ o e, (p2'.isList).at fun o e => hk _ o e⟩ ⟨?_, fun i key v hkv => ?_⟩ ?_ fun h'' tk hd'' k2 => ?_
  · rw [lz, List.size_toArray, List.size_toArray]
    omega
  · obtain ⟨e1, e2⟩ := hkv
    rw [List.getElem?_toArray] at e1 e2
    have ik : i < ks.length := by
      have := (List.getElem?_eq_some_iff.mp e1).1
      omega
    have ek : (ks.map V.str)[i]? = some (.str ks[i]) := by rw [List.getElem?_map, List.getElem?_eq_getElem ik]; rfl
    refine ⟨Sum.inr ks[i], ?_, kV_is (k := Sum.inr ks[i]) (vals_get' rv i ek e1)⟩
    rw [List.getElem?_zip_eq_some]
    exact ⟨by rw [List.getElem?_map, List.getElem?_eq_getElem ik]; rfl, e2⟩
  · rw [List.size_toArray, List.size_toArray]
    omega
  · have kp : ∀ c o, s1.heap.get? c = some o → h''.get? c = some o := fun c o e => k2 c o (fun hm => by
      have lt := Heap.lt_size e
      simp only [List.mem_cons, List.not_mem_nil, or_false] at hm
      rcases hm with z | z | z | z <;> rw [z] at lt
      · exact absurd lt (Nat.not_lt_of_le (Nat.le_add_right _ _))
      · exact absurd lt (Nat.not_lt_of_le (Nat.le_add_right _ _))
      · exact absurd lt (Nat.lt_irrefl _)
      · exact absurd lt (Nat.not_lt_of_le (Nat.le_add_right _ _))) (hk c o e)
    have sz : s1.heap.objs.size ≤ h'.objs.size := by omega
    have big : (h'.objs.size == sysModules) = false := beq_eq_false_iff_ne.mpr (Nat.ne_of_gt (Nat.lt_of_lt_of_le I1.big sz))
    have rel : KV (mergeK [] ((ks.map (Sum.inr : Str → Key)).zip ys)) (merged [] ((ks.map (Sum.inr : Str → Key)).zip its2)) := KV.merge (kv_zip rv2) .nil
    have len : (mergeK [] ((ks.map (Sum.inr : Str → Key)).zip ys)).length ≤ sizeLine := by
      refine Nat.le_trans (length_mergeK _ []) ?_
      rw [List.length_nil, Nat.zero_add, List.length_zip, List.length_map]
      omega
    exact ⟨.ref h'.objs.size, _, I1.laid (t' := tk) kp sz (show ObjOk X.prog X.w _ _ _ (.dK _) from ⟨len, big, _, rel, hd''⟩), rfl, q1 _ (I1.hok.fresh sz)⟩
where vals_get' : ∀ {xs : List V} {us : List Value}, Vals xs us → ∀ (i : Nat) {x : V} {u : Value}, xs[i]? = some x → us[i]? = some u → RelV x u
  | _, _, .nil, i, x, u, h, _ => by simp at h
  | _, _, .cons r t, 0, x, u, h, h' => by
    rw [List.getElem?_cons_zero] at h h'
    rw [← Option.some.inj h, ← Option.some.inj h']
    exact r
  | _, _, .cons r t, i + 1, x, u, h, h' => by
    rw [List.getElem?_cons_succ] at h h'
    exact vals_get' t i h h'
end
end AL
set_option Elab.async false
set_option linter.all false
set_option maxRecDepth 100000
set_option maxHeartbeats 4000000
namespace AL
open PySem PySem.Spec PyProof.Rows L2
/-! ### a dict that may be locked already -/
section
variable {X : Cx}
theorem call_lenR : CallR X (.builtin "len") (fun xs H Q => ∃ a kvs, xs = [V.ref a] ∧ Rd H a (.dK kvs) ∧ Q (.int kvs.length) H) := by
  intro pins s σ H xs us Q I r h
  obtain ⟨a, kvs, rfl, ha, q⟩ := h
  obtain ⟨u, rfl, ru⟩ := vals1 r
  cases ru
  exact d_len I ha fun t s' I' => ⟨.int kvs.length, H, I', ⟨t, rfl⟩, q⟩
/-- locked while the expression runs; or locked as it is -/
def tMayE (t : TE) : TE := fun σ H Q => (∃ d u od, H d = some (.frz od u) ∧ t σ H fun v H' => H' d = some (.frz od u) ∧ Q v H') ∨ tLockE t σ H Q
theorem pe_may {e : Expr} {t : TE} (h : PE X e t) : PE X e (tMayE t) := by
  refine ⟨fun pins s σ H Q I hw => ?_⟩
  rcases hw with ⟨d, u, od, hd, hw⟩ | hw
  · exact thn (h.run pins s σ H _ I hw) fun v s1 ⟨x, H1, I2, r, e2, q⟩ => ⟨x, H1, I2, r, q⟩
  · exact (pe_lock h).run pins s σ H Q I hw
def tMay (t : TS) : TS := fun D σ H => (∃ d u od, H d = some (.frz od u) ∧ t ⟨fun σ' H' => H' d = some (.frz od u) ∧ D.nx σ' H', fun v H' => H' d = some (.frz od u) ∧ D.rt v H', fun σ' H' => H' d = some (.frz od u) ∧ D.bk σ' H', fun σ' H' => H' d = some (.frz od u) ∧ D.ct σ' H'⟩ σ H) ∨ tLock t D σ H
theorem ps_may {st : Stmt} {t : TS} (h : PS X st t) : PS X st (tMay t) := by
  refine ⟨fun pins s σ H D I hw => ?_⟩
  rcases hw with ⟨d, u, od, hd, hw⟩ | hw
  · refine thn (h.run pins s σ H _ I hw) fun f s1 q => ?_
    cases f with
    | next => obtain ⟨σ', H', I2, e, q⟩ := q; exact ⟨σ', _, I2, q⟩
    | brk => obtain ⟨σ', H', I2, e, q⟩ := q; exact ⟨σ', _, I2, q⟩
    | cont => obtain ⟨σ', H', I2, e, q⟩ := q; exact ⟨σ', _, I2, q⟩
    | ret v => obtain ⟨x, σ', H', I2, r, e, q⟩ := q; exact ⟨x, σ', _, I2, r, q⟩
  · exact (ps_lock h).run pins s σ H D I hw
end
/-- locked, and back -/
structure Lk (d : Addr) (u : HO) (od : Obj) (H H0 : Hp) (bk : Hp → Hp) : Prop where
  f : H0 d = some (.frz od u)
  o : ∀ {b : Addr}, b ≠ d → H0 b = H b
  b1 : ∀ {H' : Hp}, H' d = some (.frz od u) → bk H' d = H d
  b2 : ∀ {H' : Hp} {b : Addr}, b ≠ d → bk H' b = H' b
section
variable {σ : L2.St} {H : Hp} {d : Addr} {u : HO}
theorem Lk.locked {od : Obj} (hd : H d = some u) : Lk d u od H (upd H d (.frz od u)) fun H' => upd H' d u :=
  ⟨upd_same, fun n => upd_ne n, fun _ => by rw [upd_same, hd], fun n => upd_ne n⟩
theorem Lk.asis {od : Obj} (hd : H d = some (.frz od u)) : Lk d u od H H fun H' => H' :=
  ⟨hd, fun _ => rfl, fun e => e.trans hd.symm, fun _ => rfl⟩
theorem may_of {t : TE} {Q : VK} (hd : Rd H d u) (mu : Mut (some u)) (h : ∀ (od : Obj) (H0 : Hp) (bk : Hp → Hp), Lk d u od H H0 bk → t σ H0 fun v H' => H' d = some (.frz od u) ∧ Q v (bk H')) : tMayE t σ H Q := by
  rcases hd with hd | ⟨od, hd⟩
  · exact .inr ⟨d, u, hd, mu, fun od => h od _ _ (.locked hd)⟩
  · exact .inl ⟨d, u, od, hd, h od _ _ (.asis hd)⟩
theorem may_ofS {t : TS} {D : Ends} (hd : Rd H d u) (mu : Mut (some u)) (h : ∀ (od : Obj) (H0 : Hp) (bk : Hp → Hp), Lk d u od H H0 bk →
    t ⟨fun σ' H' => H' d = some (.frz od u) ∧ D.nx σ' (bk H'), fun v H' => H' d = some (.frz od u) ∧ D.rt v (bk H'), fun σ' H' => H' d = some (.frz od u) ∧ D.bk σ' (bk H'), fun σ' H' => H' d = some (.frz od u) ∧ D.ct σ' (bk H')⟩ σ H0) : tMay t D σ H := by
  rcases hd with hd | ⟨od, hd⟩
  · exact .inr ⟨d, u, hd, mu, fun od => h od _ _ (.locked hd)⟩
  · exact .inl ⟨d, u, od, hd, h od _ _ (.asis hd)⟩
theorem Lk.ne {od : Obj} {H0 : Hp} {bk : Hp → Hp} {b : Addr} {o : HO} (hd : Rd H d u) (h : H b = some o) (n1 : o ≠ u) (n2 : ∀ od, o ≠ .frz od u) : b ≠ d := fun z => by
  rw [z] at h
  rcases hd with e | ⟨od, e⟩
  · rw [e] at h
    exact n1 (Option.some.inj h).symm
  · rw [e] at h
    exact n2 od (Option.some.inj h).symm
theorem Lk.same {od : Obj} {H0 H1 : Hp} {bk : Hp → Hp} (L : Lk d u od H H0 bk) (s : Same H0 H1) : Same H (bk H1) := fun b o e => by
  by_cases z : b = d
  · rw [z] at e ⊢
    rw [L.b1 (s _ _ L.f)]
    exact e
  · rw [L.b2 z]
    exact s _ _ (by rw [L.o z]; exact e)
/-- what the lock lets through -/
theorem Lk.get {od : Obj} {H0 : Hp} {bk : Hp → Hp} {b : Addr} {o : HO} (L : Lk d u od H H0 bk) (hd : Rd H d u) (h : H b = some o) (n1 : o ≠ u) (n2 : ∀ od, o ≠ .frz od u) : H0 b = some o := by
  rw [L.o (Lk.ne (od := od) (H0 := H0) (bk := bk) hd h n1 n2)]
  exact h
theorem Lk.none {od : Obj} {H0 : Hp} {bk : Hp → Hp} {b : Addr} (L : Lk d u od H H0 bk) (h : H0 b = none) : H b = none := by
  have z : b ≠ d := fun z => by rw [z, L.f] at h; cases h
  rw [← L.o z]
  exact h
end
end AL
set_option Elab.async false
set_option linter.all false
set_option maxRecDepth 100000
set_option maxHeartbeats 4000000
namespace A8
open PySem PySem.Spec PyProof.Rows L2 AL
open GxR (TabB TabG Tabbed)
/-! ### the abstract heap: what stays -/
structure Ext (Ps : List Addr) (H H' : Hp) : Prop where
  kp : ∀ b o, H b = some o → b ∉ Ps → H' b = some o
  tb : ∀ p ∈ Ps, TabG H p → TabG H' p
def Tabs (Ps : List Addr) (H : Hp) : Prop := ∀ p ∈ Ps, TabG H p
section
variable {Ps : List Addr} {H H1 H2 : Hp}
theorem Ext.refl : Ext Ps H H := ⟨fun _ _ h _ => h, fun _ _ h => h⟩
theorem Ext.trans (a : Ext Ps H H1) (b : Ext Ps H1 H2) : Ext Ps H H2 := ⟨fun c o h n => b.kp c o (a.kp c o h n) n, fun p hp h => b.tb p hp (a.tb p hp h)⟩
theorem Ext.tabs (a : Ext Ps H H1) (t : Tabs Ps H) : Tabs Ps H1 := fun p hp => a.tb p hp (t p hp)
/-- a tracked thing that is no table stays -/
theorem Ext.get (a : Ext Ps H H1) (t : Tabs Ps H) {b : Addr} {o : HO} (h : H b = some o) (n : ∀ ps, o ≠ .tbl ps) : H1 b = some o :=
  a.kp b o h fun hp => by
    obtain ⟨ps, e, _⟩ := t b hp
    rw [h] at e
    exact n ps (Option.some.inj e)
theorem Ext.tabbed {P : Addr} (hP : P ∈ Ps) (h : Tabbed P H H1) : Ext Ps H H1 :=
  ⟨fun b o e n => by rw [h.2 b fun z => n (z ▸ hP)]; exact e, fun p hp e => by
    by_cases z : p = P
    · rw [z]; exact h.1
    · obtain ⟨ps, e1, e2⟩ := e
      exact ⟨ps, by rw [h.2 p z]; exact e1, e2⟩⟩
/-- a new thing -/
theorem Ext.new {b : Addr} {o : HO} (h : H b = none) : Ext Ps H (upd H b o) :=
  ⟨fun c u e _ => by rw [upd_ne (ne_of_none e h)]; exact e, fun p _ e => by
    obtain ⟨ps, e1, e2⟩ := e
    exact ⟨ps, by rw [upd_ne (ne_of_none e1 h)]; exact e1, e2⟩⟩
/-- a thing is written that was not there at first -/
theorem Ext.put {b : Addr} {o : HO} (a : Ext Ps H H1) (h : H b = none) (n : b ∉ Ps) : Ext Ps H (upd H1 b o) :=
  ⟨fun c u e z => by rw [upd_ne (ne_of_none e h)]; exact a.kp c u e z, fun p hp e => by
    obtain ⟨ps, e1, e2⟩ := a.tb p hp e
    exact ⟨ps, by rw [upd_ne fun z => n (by rw [← z]; exact hp)]; exact e1, e2⟩⟩
theorem notPs {b : Addr} (t : Tabs Ps H) (h : H b = none) : b ∉ Ps := fun hp => by
  obtain ⟨ps, e, _⟩ := t b hp
  rw [h] at e
  cases e
theorem notPs' {b : Addr} {o : HO} (t : Tabs Ps H) (h : H b = some o) (n : ∀ ps, o ≠ .tbl ps) : b ∉ Ps := fun hp => by
  obtain ⟨ps, e, _⟩ := t b hp
  rw [h] at e
  exact n ps (Option.some.inj e)
theorem tabs_upd {b : Addr} {o : HO} (t : Tabs Ps H) (n : b ∉ Ps) : Tabs Ps (upd H b o) := fun p hp => by
  obtain ⟨ps, e1, e2⟩ := t p hp
  exact ⟨ps, by rw [upd_ne fun z => n (by rw [← z]; exact hp)]; exact e1, e2⟩
end
/-! ### names -/
def NameOk (x : Str) : Prop := 1 ≤ x.cps.size ∧ x.cps.size ≤ 8 ∧ ∀ c ∈ x.cps.toList, 97 ≤ c ∧ c ≤ 122
/-- a def whose code object is known -/
theorem okC {P : Program} {w : World} {K : PySem.W.Frag} {mg : Str → Option Value} {base : Heap} {k : Nat} {f c : Addr} {fd : FuncData} {x qual : Str} {params : Arguments} {body : List Stmt} {scope : Scope} {dvs : List V} {kws : List (Str × V)} {N ps : List Str} {sp : Sp}
    (F : FunD K x qual params body scope dvs kws f fd) (hc : fd.code = .ref c) (S : FnScope N ps scope) (len : ∀ vs H Q E, sp vs H Q E → vs.length = ps.length)
    (hbody : ∀ (A : Around) (outer : List Env) (s : Shared) (H : Hp) (vs : List V) (Q : VK) (E : XK), Room k (A.deeper (envOfC qual scope s.heap.objs.size f (.ref c))) → sp vs H Q E →
      ∃ t, PSs (cxOf CX0 P w K mg base N qual scope f (.ref c) A outer s H E).nox body t ∧ t { nx := fun _ H' => Q .non H', rt := Q } (start N vs) H) : FnOk P w K mg base CX0 (k + 1) f fd ps sp := by
  obtain ⟨oc, od, dV, kV, doc, pm, an, cdv, ct, osl, rfl, lk, hcd, _, _⟩ := F.ex
  obtain rfl : cdv = .ref c := hc
  refine fn_of lk hcd S len fun A outer s H vs Q E hr hsp => ?_
  obtain ⟨t, h, q⟩ := hbody A outer s H vs Q E hr hsp
  exact ⟨t, h.nox, q⟩
theorem code_at {K : PySem.W.Frag} {x qual : Str} {params : Arguments} {body : List Stmt} {scope : Scope} {dvs : List V} {kws : List (Str × V)} {p : He.Defn} {fd : FuncData} (F : FunD K x qual params body scope dvs kws (He.fAd K p) fd) : fd.code = .ref (He.codeOf K p) := by
  obtain ⟨oc, od, dV, kV, doc, pm, an, cdv, ct, osl, rfl, lk, hcd, _, _⟩ := F.ex
  obtain ⟨c, rfl⟩ := He.codeIn_ref hcd
  rw [He.codeOf_eq lk rfl]
/-- a def that may be called by its name -/
structure Cal (P : Program) (w : World) (K : PySem.W.Frag) (mg : Str → Option Value) (base : Heap) (k : Nat) (x : Str) (sp : Sp) : Prop where
  ex : ∃ (f : Addr) (fd : FuncData) (ps : List Str), FnOk P w K mg base CX0 k f fd ps sp ∧ mg x = some (.ref f) ∧ PySem.W.keepIn K (.ref f) = true ∧ Binds K fd ps []
section
variable {X : Cx} {k j : Nat} {x : Str} {sp : Sp} {p pos : Pos} {e : Expr} {es : List Expr} {t : TA}
theorem pe_c (c : Cal X.prog X.w X.K X.mg X.base k x sp) (hr : Room j X.A) (hk : k ≤ j) (hg : Gl X x) (ha : PA X (e :: es) t)
    (hdb : (x == ("__debug__" : Str)) = false := by decide) (he : starEach (e :: es) X.env = (false, eval e X.env) :: starEach es X.env := by rfl) (hpl : (backTo pos (starEach es X.env)).any (·.1) = false := by rfl) :
    PE X (.Call (.Name x p) (e :: es) [] pos) (tCall sp [] E0 t) := by
  obtain ⟨f, fd, ps, F, hm, kp, b⟩ := c.ex
  exact pe_call F (hr.mono hk) hg hm kp b .nil pass0 ha hdb he hpl
end
end A8
set_option Elab.async false
set_option linter.all false
set_option maxRecDepth 100000
set_option maxHeartbeats 4000000
namespace A8
open PySem PySem.Spec PyProof.Rows L2 AL
open GxR (TabB TabG Tabbed)
abbrev PR : Program := PySem.Challenge.pw_asklines_k47_trees_written
def top (i : Nat) : Stmt := PR.main.body.getD i (.Pass ⟨0, 0, 0, 0⟩)
abbrev sIsName : Stmt := top 7
theorem scIsName : FnScope ["value", "letter"] ["value"] (defScope sIsName) := ⟨rfl, rfl, rfl, by decide +kernel, rfl, by decide +kernel, by decide +kernel⟩
def spIsName (Ps : List Addr) : Sp := fun vs H Q _ => ∃ x : Str, vs = [.str x] ∧ NameOk x ∧ Tabs Ps H ∧ ∀ H', Ext Ps H H' → Q (.bl true) H'
theorem lt_one {a b : Nat} : [a] < [b] ↔ a < b := by
  constructor
  · intro h
    cases h with
    | rel h => exact h
    | cons h => cases h
  · exact fun h => .rel h
section
variable {P : Program} {w : World} {K : PySem.W.Frag} {mg : Str → Option Value} {base : Heap} {f c p1 : Addr} {fd : FuncData} {Ps : List Addr}
theorem ok_isName (F : FunD K "is_name" "is_name" (defArgs sIsName) (defBody sIsName) (defScope sIsName) [] [] f fd) (hc : fd.code = .ref c) (TB : TabB base mg c p1) (hp : p1 ∈ Ps)
    (gI : mg "isinstance" = none) (gA : mg "all" = none) (gL : mg "len" = none) (gS : mg "str" = none) {tk : Tok} (gM : mg "MOST_LETTERS" = some (.int 8 tk)) : FnOk P w K mg base CX0 2 f fd ["value"] (spIsName Ps) := by
  refine okC F hc scIsName (fun vs H Q E h => ?_) ?_
  · obtain ⟨x, rfl, _⟩ := h
    rfl
  intro A outer s H vs Q E hr h
  refine ⟨_, pss_one (ps_ret (pe_and (pe_callB call_isi rfl gI (by decide +kernel) (pa_cons (pv 0) (pa_cons (pe_bltn (u := .type "str") (v := .ty "str") rfl gS (by decide +kernel) rfl) pa_nil)))
      (pe_and (pe_chain op_le op_le pe_int (pe_callB call_len_str rfl gL boot_len (pa_cons (pv 0) pa_nil)) (pe_glob (v := .int 8) rfl gM ⟨_, rfl⟩))
        (pe_one (pe_allG (k := 0) (own := [("letter", 1)]) hr rfl scIsName.nd rfl gA TB rfl (gOk_by (N := ["value", "letter"]) (sc := defScope sIsName) (by decide +kernel) rfl (by decide +kernel) rfl) (pi_str (pv 0)) (fun s H C cl code fp A pn => pg_name (i := 1) scIsName.nd rfl (Or.inl rfl))
          (fun s H C cl code fp A pn hr => pe_chain op_le_str op_le_str pe_str (pv 1) pe_str)))))), ?_⟩
  obtain ⟨x, rfl, ⟨n1, n8, nc⟩, ht, hQ⟩ := h
  have hl : x.length = x.cps.size := rfl
  refine ⟨_, rfl, _, _, .type "str", .type "str", true, rfl, .ty "str", .base (.str x), kit_ty (by decide +kernel), true, rfl, ?_⟩
  refine iteT ?_
  refine ⟨_, rfl, x, rfl, by rw [hl, sizeLine_eq]; omega, _, _, rfl, rfl, true, congrArg V.bl (decide_eq_true (by rw [hl]; omega)), ?_⟩
  refine iteT ?_
  refine ⟨_, _, rfl, rfl, true, congrArg V.bl (decide_eq_true (by rw [hl]; omega)), ?_⟩
  refine iteT ?_
  refine ⟨_, rfl, x, rfl, ht _ hp, fun H2 hT => ?_⟩
  have e2 := Ext.tabbed hp hT
  refine ⟨fun i m H' => H' = H2 ∧ i ≤ x.cps.size ∧ m = x.cps.size - i, ⟨_, rfl, Nat.zero_le _, rfl⟩, ⟨?_⟩⟩
  rintro i m H' ⟨rfl, hi, rfl⟩
  by_cases q : i < x.cps.size
  · refine .inr ⟨q, ?_⟩
    rintro v _ ⟨rfl, ch, hc', rfl⟩
    have hm : ch ∈ x.cps.toList := Array.mem_toList_iff.mpr (Array.mem_of_getElem? hc')
    obtain ⟨c1, c2⟩ := nc ch hm
    refine ⟨rfl, _, rfl, _, _, rfl, rfl, true, congrArg (fun z => V.bl (!z)) (decide_eq_false fun z => ?_), ?_⟩
    · exact absurd (lt_one.mp (show [ch] < [97] from z)) (by omega)
    refine iteT ?_
    refine ⟨_, _, rfl, rfl, true, congrArg (fun z => V.bl (!z)) (decide_eq_false fun z => ?_), fun z => Bool.noConfusion z, fun _ => ⟨_, by omega, rfl, by omega, rfl⟩⟩
    exact absurd (lt_one.mp (show [122] < [ch] from z)) (by omega)
  · exact .inl ⟨Nat.le_of_not_lt q, hQ _ e2⟩
end
end A8
set_option Elab.async false
set_option linter.all false
set_option maxRecDepth 100000
set_option maxHeartbeats 4000000
namespace A8
open PySem PySem.Spec PyProof.Rows L2 AL
open GxR (TabB TabG Tabbed)
/-! ### all(.. for x in ..), every element true: by an invariant of the heap -/
section
variable {K : PySem.W.Frag} {a : Addr} {xs : List V} {g : TG} {te : TE} {σ0 : L2.St} {vs : List Nat} {QT QF : Hp → Prop} {H2 : Hp} {o : Obj} {kvs : List (Key × V)} {d : Addr}
theorem all_list (I : Hp → Prop) (h0 : I H2) (hl : ∀ H, I H → SqL K H a xs)
    (hs : ∀ (i : Nat) (x : V) (H : Hp) (Nx : VK), xs[i]? = some x → I H → (∀ H3, I H3 → Nx (.bl true) H3) → g x σ0 H fun σ2 H2 => wipe σ2 vs = σ0 ∧ te σ2 H2 Nx) (he : ∀ H, I H → QT H) :
    ∃ W : Nat → Nat → Hp → Prop, (∃ m, W 0 m H2) ∧ W1 K (Itl K a) g te σ0 vs false QT QF W := by
  refine ⟨fun i m H => I H ∧ i ≤ xs.length ∧ m = xs.length - i, ⟨_, h0, Nat.zero_le _, rfl⟩, ⟨?_⟩⟩
  rintro i m H ⟨hI, hi, rfl⟩
  by_cases q : i < xs.length
  · refine .inr ⟨⟨xs, xs[i], hl H hI, List.getElem?_eq_getElem q⟩, ?_⟩
    rintro x H' ⟨rfl, hx⟩
    exact hs i x _ _ (hx xs (hl _ hI)) hI fun H3 h3 => ⟨true, rfl, fun z => Bool.noConfusion z, fun _ => ⟨_, by omega, h3, q, rfl⟩⟩
  · exact .inl ⟨⟨xs, hl H hI, Nat.le_of_not_lt q⟩, he H hI⟩
theorem all_keys (I : Hp → Prop) (h0 : I H2) (hl : ∀ H, I H → H d = some (.frz o (.dK kvs)))
    (hs : ∀ (i : Nat) (k : Key) (v : V) (H : Hp) (Nx : VK), kvs[i]? = some (k, v) → I H → (∀ H3, I H3 → Nx (.bl true) H3) → g (kV k) σ0 H fun σ2 H2 => wipe σ2 vs = σ0 ∧ te σ2 H2 Nx) (he : ∀ H, I H → QT H) :
    ∃ W : Nat → Nat → Hp → Prop, (∃ m, W 0 m H2) ∧ W1 K (Itk d o kvs) g te σ0 vs false QT QF W := by
  refine ⟨fun i m H => I H ∧ i ≤ kvs.length ∧ m = kvs.length - i, ⟨_, h0, Nat.zero_le _, rfl⟩, ⟨?_⟩⟩
  rintro i m H ⟨hI, hi, rfl⟩
  by_cases q : i < kvs.length
  · refine .inr ⟨⟨hl H hI, q⟩, ?_⟩
    rintro x H' ⟨rfl, k, v, hx, rfl⟩
    exact hs i k v _ _ hx hI fun H3 h3 => ⟨true, rfl, fun z => Bool.noConfusion z, fun _ => ⟨_, by omega, h3, q, rfl⟩⟩
  · exact .inl ⟨⟨hl H hI, Nat.le_of_not_lt q⟩, he H hI⟩
end
section
variable {K : PySem.W.Frag} {g g1 : TG} {te ta : TE} {σ0 : L2.St} {vs0 vs1 : List Nat} {QT QF : Hp → Prop} {H2 : Hp} {o : Obj} {kvs : List (Key × V)} {d : Addr}
/-- all(e for k in d for y in d[k]): the heap stays -/
theorem all_keys2 (h0 : H2 d = some (.frz o (.dK kvs))) (L : Nat → Addr) (xs : Nat → List V) (m : Nat) (hm : ∀ i, (xs i).length < m) (hL : ∀ i k v, kvs[i]? = some (k, v) → SqL K H2 (L i) (xs i))
    (hs : ∀ (i : Nat) (k : Key) (v : V), kvs[i]? = some (k, v) → ∀ R : L2.St → Hp → Prop,
      (∀ σ1, wipe σ1 vs0 = σ0 → (∀ R1 : It → Hp → Prop, (∃ _u : Unit, R1 (Itl K (L i)) H2) → iList K ta σ1 H2 R1) →
        (∀ (j : Nat) (y : V) (Nx : VK), (xs i)[j]? = some y → Nx (.bl true) H2 → g1 y σ1 H2 fun σ2 H3 => wipe σ2 vs1 = σ1 ∧ te σ2 H3 Nx) → R σ1 H2) → g (kV k) σ0 H2 R) (he : QT H2) :
    ∃ W : Nat → Nat → Hp → Prop, (∃ m, W 0 m H2) ∧ W2 K (Itk d o kvs) g (iList K ta) g1 te σ0 vs0 vs1 false QT QF W := by
  refine ⟨fun i n H => H = H2 ∧ i ≤ kvs.length ∧ n = (kvs.length - i) * (m + 1) + m, ⟨_, rfl, Nat.zero_le _, rfl⟩, ⟨?_⟩⟩
  rintro i n H ⟨rfl, hi, rfl⟩
  by_cases q : i < kvs.length
  · refine .inr ⟨⟨h0, q⟩, ?_⟩
    rintro x H' ⟨rfl, k, v, hx, rfl⟩
    have e1 : (kvs.length - i) * (m + 1) = (kvs.length - (i + 1)) * (m + 1) + (m + 1) := by
      have : kvs.length - i = (kvs.length - (i + 1)) + 1 := by omega
      rw [this, Nat.add_mul, Nat.one_mul]
    have hmi := hm i
    refine hs i k v hx _ fun σ1 w1 hi1 hte => ⟨w1, hi1 _ ⟨(), ?_⟩⟩
    have hl := hL i k v hx
    refine ⟨fun j n' H => H = H' ∧ j ≤ (xs i).length ∧ n' = (kvs.length - (i + 1)) * (m + 1) + m + 1 + ((xs i).length - j), ⟨_, ?_, rfl, Nat.zero_le _, rfl⟩, ⟨?_⟩⟩
    · omega
    rintro j n' H hn ⟨rfl, hj, rfl⟩
    by_cases q2 : j < (xs i).length
    · refine .inr ⟨⟨xs i, (xs i)[j], hl, List.getElem?_eq_getElem q2⟩, ?_⟩
      rintro y H3 ⟨rfl, hy⟩
      exact hte j y _ (hy _ hl) ⟨true, rfl, fun z => Bool.noConfusion z, fun _ => ⟨_, by omega, rfl, q2, rfl⟩⟩
    · exact .inl ⟨⟨xs i, hl, Nat.le_of_not_lt q2⟩, (kvs.length - (i + 1)) * (m + 1) + m, by omega, by omega, rfl, q, rfl⟩
  · exact .inl ⟨⟨h0, Nat.le_of_not_lt q⟩, he⟩
end
section
variable {J : It} {n : Nat} {G : Hp → Prop} {Y : Nat → Hp → V → Hp → Prop}
/-- {k: v for x in ..}: Pv by the turn and the heap (the new dict at D within) -/
theorem dc_it (w : Walk J n G Y) {g : TG} {tt : TT} {tk tv : TE} {vs : List Nat} {σ : L2.St} {H1 : Hp} {D : Addr} {Qd : Hp → Prop} (Pv : Nat → Hp → Prop) (h0 : Pv 0 (upd H1 D (.dK []))) (hG : ∀ i H, i ≤ n → Pv i H → G H)
    (hs : ∀ i x H H', i < n → Pv i H → Y i H x H' → g x (wipe σ vs) H' fun σ2 H2 => wipe σ2 vs = wipe σ vs ∧ tt σ2 H2 fun b H3 => if b = true then tk σ2 H3 fun y H4 => tv σ2 H4 fun z H5 => ∃ kvs k, y = kV k ∧ H5 D = some (.dK kvs) ∧
      kvs.length < sizeLine ∧ Pv (i + 1) (upd H5 D (.dK (putK kvs k z))) else Pv (i + 1) H3) (hd : ∀ H, Pv n H → Qd H) :
    ∃ W : Nat → Nat → Hp → Prop, (∃ m, W 0 m (upd H1 D (.dK []))) ∧ ∀ i m H, W i m H → (J.stop i H ∧ Qd H) ∨ (J.go i H ∧ ∃ Nx : Hp → Prop, (∀ H', Nx H' → ∃ m', m' < m ∧ W (i + 1) m' H') ∧
      ∀ x H', J.yld i H x H' → g x (wipe σ vs) H' fun σ2 H2 => wipe σ2 vs = wipe σ vs ∧ tt σ2 H2 fun b H3 => if b = true then tk σ2 H3 fun y H4 => tv σ2 H4 fun z H5 => ∃ kvs k, y = kV k ∧ H5 D = some (.dK kvs) ∧
        kvs.length < sizeLine ∧ Nx (upd H5 D (.dK (putK kvs k z))) else Nx H3) := by
  refine ⟨fun i m H => m + i = n ∧ Pv i H, ⟨n, Nat.add_zero n, h0⟩, ?_⟩
  rintro i m H ⟨e, p⟩
  have q := hG i H (by omega) p
  cases m with
  | zero =>
    obtain rfl : i = n := by omega
    exact .inl ⟨w.stops H q, hd H p⟩
  | succ m => exact .inr ⟨w.goes i H (by omega) q, Pv (i + 1), fun H' p' => ⟨m, Nat.lt_succ_self m, by omega, p'⟩, fun x H' y => hs i x H H' (by omega) p (w.yields i H x H' (by omega) q y)⟩
end
/-- x = e; ..: by what is known of e's value -/
theorem seq_asg {te : TE} {g : TG} {u : TS} {D : Ends} {σ : L2.St} {H : Hp} (R : V → Hp → Prop) (h1 : ∀ Q : VK, (∀ v H1, R v H1 → Q v H1) → te σ H Q) (h2 : ∀ v H1, R v H1 → g v σ H1 (u D)) : tSeq (tAsg te g) u D σ H := h1 _ h2
end A8
set_option Elab.async false
set_option linter.all false
set_option maxRecDepth 100000
set_option maxHeartbeats 4000000
namespace A8
open PySem PySem.Spec PyProof.Rows L2 AL
/-! ### lists of texts -/
theorem flat_strs : ∀ xs : List Str, (xs.map V.str).all flatV = true
  | [] => rfl
  | x :: xs => by
    rw [List.map_cons, List.all_cons, flat_strs xs]
    rfl
theorem inV_strs {x : Str} : ∀ {xs : List Str}, x ∉ xs → inV (.str x) (xs.map V.str) = false
  | [], _ => rfl
  | y :: xs, h => by
    have e : eqV (.str y) (.str x) = false := beq_eq_false_iff_ne.mpr fun z => h (by rw [z]; exact List.mem_cons_self)
    show (eqV (.str y) (.str x) || inV (.str x) (xs.map V.str)) = false
    rw [e, inV_strs fun z => h (List.mem_cons_of_mem _ z)]
    rfl
theorem inV_in {x : Str} : ∀ {xs : List Str}, x ∈ xs → inV (.str x) (xs.map V.str) = true
  | y :: xs, h => by
    show (eqV (.str y) (.str x) || inV (.str x) (xs.map V.str)) = true
    rcases List.mem_cons.mp h with rfl | h
    · have e : eqV (.str x) (.str x) = true := beq_self_eq_true x
      rw [e]
      rfl
    · rw [inV_in h, Bool.or_true]
theorem sortedS_pw : ∀ {l : List Str}, sortedS l = true → l.Pairwise fun a b => ¬ sLt b a
  | [], _ => .nil
  | [a], _ => by simp
  | a :: b :: r, h => by
    have h' : (!ltCps b.cps.toList a.cps.toList && sortedS (b :: r)) = true := h
    rw [Bool.and_eq_true, Bool.not_eq_true'] at h'
    have ih := sortedS_pw h'.2
    have hab : ¬ sLt b a := fun z => by
      rw [ltCps_eq] at h'
      exact absurd z (of_decide_eq_false h'.1)
    refine List.pairwise_cons.mpr ⟨fun c hc => ?_, ih⟩
    rcases List.mem_cons.mp hc with rfl | hc
    · exact hab
    · exact sLt_trans' hab (List.rel_of_pairwise_cons ih hc)
theorem sorted_eq : ∀ {xs ys : List Str}, sortedS ys = true → ys.Nodup → sortedS xs = true → xs.Nodup → (∀ k, k ∈ ys ↔ k ∈ xs) → ys = xs := fun h1 h2 h3 h4 h5 => go (sortedS_pw h1) h2 (sortedS_pw h3) h4 h5
where go : ∀ {xs ys : List Str}, ys.Pairwise (fun a b => ¬ sLt b a) → ys.Nodup → xs.Pairwise (fun a b => ¬ sLt b a) → xs.Nodup → (∀ k, k ∈ ys ↔ k ∈ xs) → ys = xs
  | [], [], _, _, _, _, _ => rfl
  | x :: xs, [], _, _, _, _, e => absurd ((e x).mpr List.mem_cons_self) List.not_mem_nil
  | [], y :: ys, _, _, _, _, e => absurd ((e y).mp List.mem_cons_self) List.not_mem_nil
  | x :: xs, y :: ys, hy, ny, hx, nx, e => by
    have exy : y = x := by
      rcases List.mem_cons.mp ((e y).mp List.mem_cons_self) with h | h
      · exact h
      rcases List.mem_cons.mp ((e x).mpr List.mem_cons_self) with h' | h'
      · exact h'.symm
      · exact sLt_tri (List.rel_of_pairwise_cons hy h') (List.rel_of_pairwise_cons hx h)
    subst exy
    have n1 := List.nodup_cons.mp ny
    have n2 := List.nodup_cons.mp nx
    rw [go (List.Pairwise.of_cons hy) n1.2 (List.Pairwise.of_cons hx) n2.2 fun k => ⟨fun h => ?_, fun h => ?_⟩]
    · rcases List.mem_cons.mp ((e k).mp (List.mem_cons_of_mem _ h)) with z | z
      · exact (n1.1 (by rw [← z]; exact h)).elim
      · exact z
    · rcases List.mem_cons.mp ((e k).mpr (List.mem_cons_of_mem _ h)) with z | z
      · exact (n2.1 (by rw [← z]; exact h)).elim
      · exact z
theorem sortedS_of : ∀ {l : List Str}, l.Pairwise (fun a b => ¬ sLt b a) → sortedS l = true := fun {l} h => sortedS_of_pairwise l (h.imp fun {a b} q => by
  rw [ltCps_eq]
  exact decide_eq_false q)
/-! ### .. as data -/
def Ascii (x : Str) : Prop := ∀ c ∈ x.cps.toList, c < 0x110000
theorem strOk_of {x : Str} (h : Ascii x) : PyData.strOk x = true := by
  unfold PyData.strOk
  rw [Array.all_eq_true_iff_forall_mem]
  exact fun c hc => decide_eq_true (h c (Array.mem_toList_iff.mpr hc))
theorem NameOk.asc {x : Str} (h : NameOk x) : Ascii x := fun c hc => by
  have := h.2.2 c hc
  omega
theorem canLay_strs : ∀ {xs : List Str}, (∀ x ∈ xs, Ascii x) → PyData.canLayAll0 (xs.map PyData.str) = true
  | [], _ => rfl
  | x :: xs, h => by
    show (PyData.strOk x && PyData.canLayAll0 (xs.map PyData.str)) = true
    rw [strOk_of (h x List.mem_cons_self), canLay_strs fun y hy => h y (List.mem_cons_of_mem _ hy)]
    rfl
theorem depth_strs : ∀ xs : List Str, PyData.depthAll (xs.map PyData.str) = 0
  | [] => rfl
  | x :: xs => by
    show max (PyData.depth (.str x)) (PyData.depthAll (xs.map PyData.str)) = 0
    rw [depth_strs xs]
    rfl
theorem shaped_strs {xs : List Str} (h : ∀ x ∈ xs, Ascii x) : SeqAt.shaped (.list (xs.map .str)) = true := by
  have e : PyData.canLay0 (.list (xs.map .str)) = true := canLay_strs h
  have e2 : PyData.depth (.list (xs.map .str)) = 1 := congrArg (· + 1) (depth_strs xs)
  show (PyData.canLay0 (.list (xs.map .str)) && decide (PyData.depth (.list (xs.map .str)) ≤ 64)) = true
  rw [e, e2]
  rfl
end A8
set_option Elab.async false
set_option linter.all false
set_option maxRecDepth 100000
set_option maxHeartbeats 4000000
namespace A8
open PySem PySem.Spec PyProof.Rows L2 AL
open GxR (TabB TabG Tabbed)
/-! ### trees -/
abbrev Row := Str × Addr × List Str
def kvsOf (t : List Row) : List (Key × V) := t.map fun r => (Sum.inr r.1, .ref r.2.1)
def RowsAt (H : Hp) (t : List Row) : Prop := ∀ r ∈ t, H r.2.1 = some (.lst (r.2.2.map V.str))
structure TreeAt (H : Hp) (d : Addr) (t : List Row) : Prop where
  d : Rd H d (.dK (kvsOf t))
  rows : RowsAt H t
structure OkTree (t : List Row) : Prop where
  n1 : 1 ≤ t.length
  n40 : t.length ≤ 40
  names : ∀ r ∈ t, NameOk r.1
  nodup : (t.map (·.1)).Nodup
  nbs : ∀ r ∈ t, ∀ y ∈ r.2.2, ∃ s ∈ t, s.1 = y
  self : ∀ r ∈ t, r.1 ∉ r.2.2
  asc : ∀ r ∈ t, sortedS r.2.2 = true ∧ r.2.2.Nodup
  sym : ∀ r ∈ t, ∀ s ∈ t, s.1 ∈ r.2.2 → r.1 ∈ s.2.2
  ends : (t.map fun r => r.2.2.length).sum + 2 = 2 * t.length
  conn : ∀ S : Str → Prop, (∃ r ∈ t, S r.1) → (∀ r ∈ t, S r.1 → ∀ y ∈ r.2.2, S y) → ∀ r ∈ t, S r.1
section
variable {Ps : List Addr} {H H1 : Hp} {d : Addr} {t : List Row}
theorem Ext.rows (a : Ext Ps H H1) (ht : Tabs Ps H) (h : RowsAt H t) : RowsAt H1 t := fun r hr => a.get ht (h r hr) fun _ z => by cases z
theorem Ext.rd (a : Ext Ps H H1) (ht : Tabs Ps H) {u : HO} (h : Rd H d u) (n : ∀ ps, u ≠ .tbl ps) : Rd H1 d u := by
  rcases h with h | ⟨o, h⟩
  · exact .inl (a.get ht h n)
  · exact .inr ⟨o, a.get ht h fun _ z => by cases z⟩
theorem Ext.tree (a : Ext Ps H H1) (ht : Tabs Ps H) (h : TreeAt H d t) : TreeAt H1 d t := ⟨a.rd ht h.d (fun _ z => HO.noConfusion z), a.rows ht h.rows⟩
/-- row lists are no dicts: the tree's dict may be locked -/
theorem rows_lock {u : HO} (hd : H d = some (.dK (kvsOf t))) (h : RowsAt H t) : RowsAt (upd H d u) t := fun r hr => by
  rw [upd_ne fun z => ?_]
  · exact h r hr
  · have := h r hr
    rw [z, hd] at this
    cases this
theorem valV_row : ∀ {t : List Row} {r : Row}, r ∈ t → (t.map (·.1)).Nodup → valV (kvsOf t) (Sum.inr r.1) = some (.ref r.2.1)
  | a :: t, r, h, nd => by
    rw [List.map_cons, List.nodup_cons] at nd
    rcases List.mem_cons.mp h with rfl | h
    · exact valV_pos rfl
    · have ne : ¬ (Sum.inr a.1 : Key) = Sum.inr r.1 := fun z => nd.1 (by
        injection z with z
        rw [z]
        exact List.mem_map.mpr ⟨r, h, rfl⟩)
      exact (valV_neg (p := (Sum.inr a.1, V.ref a.2.1)) ne).trans (valV_row h nd.2)
theorem OkTree.at_ (ok : OkTree t) {r : Row} (h : r ∈ t) : valV (kvsOf t) (Sum.inr r.1) = some (.ref r.2.1) := valV_row h ok.nodup
theorem OkTree.one (ok : OkTree t) {r s : Row} (h : r ∈ t) (h' : s ∈ t) (e : r.1 = s.1) : r = s := by
  have := ok.nodup
  exact inj_of_nodup this h h' e
where inj_of_nodup : ∀ {t : List Row}, (t.map (·.1)).Nodup → ∀ {r s : Row}, r ∈ t → s ∈ t → r.1 = s.1 → r = s
  | a :: t, nd, r, s, h, h', e => by
    rw [List.map_cons, List.nodup_cons] at nd
    rcases List.mem_cons.mp h with h1 | h1 <;> rcases List.mem_cons.mp h' with h2 | h2
    · rw [h1, h2]
    · exact (nd.1 (by rw [← h1, e]; exact List.mem_map.mpr ⟨s, h2, rfl⟩)).elim
    · exact (nd.1 (by rw [← h2, ← e]; exact List.mem_map.mpr ⟨r, h1, rfl⟩)).elim
    · exact inj_of_nodup nd.2 h1 h2 e
theorem TreeAt.get (T : TreeAt H d t) (ok : OkTree t) {r : Row} (h : r ∈ t) : DGet H d (.str r.1) (some (.ref r.2.1)) := .inl ⟨_, Sum.inr r.1, T.d, rfl, (ok.at_ h).symm⟩
theorem TreeAt.row (T : TreeAt H d t) {r : Row} (h : r ∈ t) (K : PySem.W.Frag) : SqL K H r.2.1 (r.2.2.map V.str) := .inl (.inl (T.rows r h))
theorem kvsOf_len : (kvsOf t).length = t.length := List.length_map _
theorem kvsOf_at {i : Nat} {k : Key} {v : V} (h : (kvsOf t)[i]? = some (k, v)) : ∃ r, t[i]? = some r ∧ r ∈ t ∧ k = Sum.inr r.1 ∧ v = .ref r.2.1 := by
  unfold kvsOf at h
  rw [List.getElem?_map] at h
  cases q : t[i]? with
  | none => rw [q] at h; cases h
  | some r =>
    rw [q] at h
    injection h with h
    injection h with h1 h2
    exact ⟨r, rfl, List.mem_of_getElem? q, h1.symm, h2.symm⟩
theorem OkTree.asciis (ok : OkTree t) {r : Row} (h : r ∈ t) : ∀ y ∈ r.2.2, Ascii y := fun y hy => by
  obtain ⟨s, hs, e⟩ := ok.nbs r h y hy
  rw [← e]
  exact (ok.names s hs).asc
theorem OkTree.deg (ok : OkTree t) {r : Row} (h : r ∈ t) : r.2.2.length ≤ 40 := by
  have sub : r.2.2.length ≤ (t.map (·.1)).length := nodup_sub (ok.asc r h).2 fun y hy => by
    obtain ⟨s, hs, e⟩ := ok.nbs r h y hy
    exact List.mem_map.mpr ⟨s, hs, e⟩
  rw [List.length_map] at sub
  exact Nat.le_trans sub ok.n40
where nodup_sub : ∀ {xs ys : List Str}, xs.Nodup → (∀ y ∈ xs, y ∈ ys) → xs.length ≤ ys.length
  | [], _, _, _ => Nat.zero_le _
  | x :: xs, ys, nd, h => by
    have hx := h x List.mem_cons_self
    have nd' := List.nodup_cons.mp nd
    have l := nodup_sub (xs := xs) (ys := ys.erase x) nd'.2 fun y hy => (List.mem_erase_of_ne fun z => nd'.1 (by rw [← z]; exact hy)).mpr (h y (List.mem_cons_of_mem _ hy))
    rw [List.length_erase_of_mem hx] at l
    have := List.length_pos_of_mem hx
    simp only [List.length_cons]
    omega
end
/-! ### texts compared -/
theorem dpAll_strs {K : PySem.W.Frag} {H : Hp} : ∀ xs : List Str, DpAll K H (xs.map V.str) (xs.map PyData.str)
  | [] => .nil
  | x :: xs => .cons (.str x) (dpAll_strs xs)
theorem eqvAll_strs : ∀ xs : List Str, PyData.eqvAll (xs.map PyData.str) (xs.map PyData.str) = true
  | [] => rfl
  | x :: xs => by
    have e : PyData.eqv (.str x) (.str x) = true := beq_self_eq_true x
    show (PyData.eqv (.str x) (.str x) && PyData.eqvAll (xs.map PyData.str) (xs.map PyData.str)) = true
    rw [e, eqvAll_strs xs]
    rfl
/-! ### is_node -/
abbrev sIsNode : Stmt := top 11
theorem scIsNode : FnScope ["tree", "value"] ["tree", "value"] (defScope sIsNode) := ⟨rfl, rfl, rfl, by decide +kernel, rfl, by decide +kernel, by decide +kernel⟩
def spIsNode : Sp := fun vs H Q _ => ∃ (d : Addr) (x : Str) (kvs : List (Key × V)), vs = [.ref d, .str x] ∧ Rd H d (.dK kvs) ∧ Q (.bl (valV kvs (Sum.inr x)).isSome) H
section
variable {P : Program} {w : World} {K : PySem.W.Frag} {mg : Str → Option Value} {base : Heap} {f c p1 : Addr} {fd : FuncData} {Ps : List Addr}
theorem ok_isNode (F : FunD K "is_node" "is_node" (defArgs sIsNode) (defBody sIsNode) (defScope sIsNode) [] [] f fd) (gI : mg "isinstance" = none) (gS : mg "str" = none) : FnOk P w K mg base CX0 1 f fd ["tree", "value"] spIsNode := by
  refine F.ok scIsNode (fun vs H Q E h => ?_) ?_
  · obtain ⟨d, x, kvs, rfl, _⟩ := h
    rfl
  intro cdv A outer s H vs Q E hr h
  refine ⟨_, PSs.nox (pss_one (ps_ret (pe_and (pe_callB call_isi rfl gI (by decide +kernel) (pa_cons (pv 1) (pa_cons (pe_bltn (u := .type "str") (v := .ty "str") rfl gS (by decide +kernel) rfl) pa_nil)))
      (pe_one (pe_cmp (pc_din (hu_of hr) (pv 1) (pv 0))))))), ?_⟩
  obtain ⟨d, x, kvs, rfl, hd, hQ⟩ := h
  refine ⟨_, rfl, _, _, .type "str", .type "str", true, rfl, .ty "str", .base (.str x), kit_ty (by decide +kernel), true, rfl, iteT ?_⟩
  exact ⟨_, rfl, _, rfl, d, _, rfl, .inl ⟨kvs, Sum.inr x, hd, rfl, rfl⟩, hQ⟩
/-! ### _has_proper_list -/
abbrev sHasList : Stmt := top 9
theorem scHasList : FnScope ["graph", "node", "row", "other"] ["graph", "node"] (defScope sHasList) := ⟨rfl, rfl, rfl, by decide +kernel, rfl, by decide +kernel, by decide +kernel⟩
def spHasList (Ps : List Addr) : Sp := fun vs H Q _ => ∃ (d : Addr) (t : List Row) (r : Row), vs = [.ref d, .str r.1] ∧ TreeAt H d t ∧ OkTree t ∧ r ∈ t ∧ Tabs Ps H ∧ ∀ H', Ext Ps H H' → Q (.bl true) H'
theorem ok_hasList (F : FunD K "_has_proper_list" "_has_proper_list" (defArgs sHasList) (defBody sHasList) (defScope sHasList) [] [] f fd) (hc : fd.code = .ref c) (TB : TabB base mg c p1) (hp : p1 ∈ Ps) (cN : Cal P w K mg base 1 "is_node" spIsNode)
    (gI : mg "isinstance" = none) (gA : mg "all" = none) (gL : mg "list" = none) (gS : mg "sorted" = none) (gT : mg "set" = none) : FnOk P w K mg base CX0 3 f fd ["graph", "node"] (spHasList Ps) := by
  refine okC F hc scHasList (fun vs H Q E h => ?_) ?_
  · obtain ⟨d, t, r, rfl, _⟩ := h
    rfl
  intro A outer s H vs Q E hr h
  refine ⟨_, pss_cons (ps_set (i := 2) scHasList.nd rfl (Or.inl rfl) (pe_dget (hu_of hr) (pv 0) (pv 1) (fun _ _ => rfl)))
    (pss_one (ps_ret (pe_and (pe_callB call_isi rfl gI (by decide +kernel) (pa_cons (pv 2) (pa_cons (pe_bltn (u := .type "list") (v := .ty "list") rfl gL (by decide +kernel) rfl) pa_nil)))
      (pe_and (pe_allG (k := 1) (own := [("other", 3)]) hr rfl scHasList.nd rfl gA TB rfl (gOk_by (N := ["graph", "node", "row", "other"]) (sc := defScope sHasList) (by decide +kernel) rfl (by decide +kernel) rfl) (pi_list (pv 2)) (fun s H C cl code fp A pn => pg_name (i := 3) scHasList.nd rfl (Or.inl rfl))
          (fun s H C cl code fp A pn hr => pe_c cN hr (by decide) rfl (pa_cons (pv 0) (pa_cons (pv 3) pa_nil))))
        (pe_and (pe_cmpR op_notIn_seq (pv 1) (pv 2) rfl)
          (pe_one (pe_cmpR (op_eqD hr.units) (pv 2) (pe_sortSet rfl rfl gS rfl gT (pv 2)) (nomark _)))))))), ?_⟩
  obtain ⟨d, t, r, rfl, T, ok, hr', ht, hQ⟩ := h
  refine ⟨_, rfl, _, rfl, d, _, rfl, T.get ok hr', ?_⟩
  refine ⟨_, rfl, _, _, .type "list", .type "list", true, rfl, .ty "list", .base (.lst (T.rows r hr')), kit_ty (by decide +kernel), true, rfl, iteT ?_⟩
  refine ⟨_, rfl, r.2.1, rfl, ⟨_, T.row hr' K⟩, ht _ hp, fun H2 hT => ?_⟩
  have e2 := Ext.tabbed hp hT
  have T2 : TreeAt H2 d t := e2.tree ht T
  refine all_list (I := fun H' => H' = H2) rfl (fun _ z => z ▸ T2.row hr' K) (fun i x H3 Nx hx e hN => ?_) fun H3 e => ?_
  · subst e
    rw [List.getElem?_map] at hx
    cases q : r.2.2[i]? with
    | none => rw [q] at hx; cases hx
    | some y =>
      rw [q] at hx
      cases hx
      obtain ⟨s', hs', es⟩ := ok.nbs r hr' y (List.mem_of_getElem? q)
      refine ⟨rfl, _, rfl, _, rfl, d, y, kvsOf t, rfl, T2.d, ?_⟩
      rw [← es, ok.at_ hs']
      exact hN _ rfl
  · subst e
    refine ⟨true, rfl, iteT ?_⟩
    refine ⟨_, rfl, _, rfl, r.2.1, _, rfl, .inl (T2.row hr' K), rfl, flat_strs _, ?_⟩
    refine ⟨true, ?_, iteT ?_⟩
    · rw [inV_strs (ok.self r hr')]
      rfl
    refine ⟨_, rfl, _, rfl, r.2.1, r.2.2, rfl, T2.row hr' K, Nat.lt_of_le_of_lt (ok.deg hr') (by decide), fun ys p h1 h2 h3 h4 => ?_⟩
    have ey : ys = r.2.2 := sorted_eq h1 h2 (ok.asc r hr').1 (ok.asc r hr').2 h3
    subst ey
    have e3 : Ext Ps _ (upd _ p (.lst (r.2.2.map V.str))) := Ext.new h4
    refine ⟨_, _, .lst ((e3.tree (e2.tabs ht) T2).row hr' K) (dpAll_strs _), .lst (.inl (.inl upd_same)) (dpAll_strs _), ?_, ?_, ?_⟩
    · exact shaped_strs (ok.asciis hr')
    · exact shaped_strs (ok.asciis hr')
    · show Q (.bl (PyData.eqvAll (r.2.2.map PyData.str) (r.2.2.map PyData.str))) _
      rw [eqvAll_strs]
      exact hQ _ (e2.trans e3)
end
end A8
set_option Elab.async false
set_option linter.all false
set_option maxRecDepth 100000
set_option maxHeartbeats 4000000
namespace A8
open PySem PySem.Spec PyProof.Rows L2 AL
open GxR (TabB TabG Tabbed)
abbrev sSteps : Stmt := top 13
theorem scSteps : FnScope ["tree", "target", "steps", "waiting", "node", "neighbour"] ["tree", "target"] (defScope sSteps) := ⟨rfl, rfl, rfl, by decide +kernel, rfl, by decide +kernel, by decide +kernel⟩
def kvS (ps : List (Str × Str)) : List (Key × V) := ps.map fun q => (Sum.inr q.1, .str q.2)
structure StepsOk (t : List Row) (x : Str) (ps : List (Str × Str)) : Prop where
  first : ps[0]? = some (x, x)
  nodup : (ps.map (·.1)).Nodup
  step : ∀ i y z, 0 < i → ps[i]? = some (y, z) → (∃ j z', j < i ∧ ps[j]? = some (z, z')) ∧ ∃ r ∈ t, r.1 = z ∧ y ∈ r.2.2
  all : ∀ r ∈ t, r.1 ∈ ps.map (·.1)
  nodes : ∀ y ∈ ps.map (·.1), ∃ r ∈ t, r.1 = y
def spSteps : Sp := fun vs H Q _ => ∃ (d : Addr) (t : List Row) (x : Row), vs = [.ref d, .str x.1] ∧ TreeAt H d t ∧ OkTree t ∧ x ∈ t ∧
  ∀ H' p ps, H p = none → H' p = some (.dK (kvS ps)) → StepsOk t x.1 ps → (∀ b o, H b = some o → H' b = some o) → Q (.ref p) H'
/-! ### the search, without the heap -/
abbrev keysS (ps : List (Str × Str)) : List Str := ps.map (·.1)
theorem kvS_get : ∀ (ps : List (Str × Str)) (y : Str), (valV (kvS ps) (Sum.inr y)).isSome = decide (y ∈ keysS ps)
  | [], y => by simp [kvS, valV_nil]
  | q :: ps, y => by
    by_cases e : (Sum.inr q.1 : Key) = Sum.inr y
    · have e2 : (valV (kvS (q :: ps)) (Sum.inr y)) = some (.str q.2) := valV_pos (p := (Sum.inr q.1, V.str q.2)) e
      rw [e2]
      injection e with e
      exact (decide_eq_true (by rw [← e]; exact List.mem_cons_self)).symm
    · have e2 : (valV (kvS (q :: ps)) (Sum.inr y)) = valV (kvS ps) (Sum.inr y) := valV_neg (p := (Sum.inr q.1, V.str q.2)) e
      rw [e2, kvS_get ps y]
      have ne : ¬ y = q.1 := fun z => e (by rw [z])
      exact decide_eq_decide.mpr ⟨fun h => List.mem_cons_of_mem _ h, fun h => (List.mem_cons.mp h).elim (fun z => (ne z).elim) id⟩
theorem kvS_put {ps : List (Str × Str)} {y : Str} (z : Str) (h : y ∉ keysS ps) : putK (kvS ps) (Sum.inr y) (.str z) = kvS (ps ++ [(y, z)]) := by
  unfold putK
  rw [valV_any, kvS_get, decide_eq_false h, if_neg Bool.false_ne_true]
  unfold kvS
  rw [List.map_append]
  rfl
structure Part (t : List Row) (x : Str) (ps : List (Str × Str)) : Prop where
  first : ps[0]? = some (x, x)
  nodup : (keysS ps).Nodup
  step : ∀ i y z, 0 < i → ps[i]? = some (y, z) → (∃ j z', j < i ∧ ps[j]? = some (z, z')) ∧ ∃ r ∈ t, r.1 = z ∧ y ∈ r.2.2
  nodes : ∀ y ∈ keysS ps, ∃ r ∈ t, r.1 = y
theorem Part.len {t : List Row} {x : Str} {ps : List (Str × Str)} (h : Part t x ps) : ps.length ≤ t.length := by
  have := OkTree.deg.nodup_sub (ys := t.map (·.1)) h.nodup fun y hy => let ⟨r, hr, e⟩ := h.nodes y hy; List.mem_map.mpr ⟨r, hr, e⟩
  rw [List.length_map, List.length_map] at this
  exact this
theorem Part.start {t : List Row} {x : Row} (h : x ∈ t) : Part t x.1 [(x.1, x.1)] where
  first := rfl
  nodup := by simp
  step := fun i y z hi e => by
    have : i < 1 := (List.getElem?_eq_some_iff.mp e).1
    omega
  nodes := fun y hy => ⟨x, h, (List.mem_singleton.mp hy).symm⟩
theorem Part.add {t : List Row} {x : Str} {ps : List (Str × Str)} (h : Part t x ps) (ok : OkTree t) {r : Row} (hr : r ∈ t) (hk : r.1 ∈ keysS ps) {y : Str} (hy : y ∈ r.2.2) (hn : y ∉ keysS ps) : Part t x (ps ++ [(y, r.1)]) where
  first := by
    have l0 : 0 < ps.length := (List.getElem?_eq_some_iff.mp h.first).1
    rw [List.getElem?_append_left l0]
    exact h.first
  nodup := by
    show ((ps ++ [(y, r.1)]).map (·.1)).Nodup
    rw [List.map_append]
    exact List.nodup_append.mpr ⟨h.nodup, by simp, fun a ha b hb z => hn (by rw [← show b = y from List.mem_singleton.mp hb, ← z]; exact ha)⟩
  step := fun i a z hi e => by
    by_cases q : i < ps.length
    · rw [List.getElem?_append_left q] at e
      obtain ⟨⟨j, z', hj, e'⟩, k⟩ := h.step i a z hi e
      exact ⟨⟨j, z', hj, by rw [List.getElem?_append_left (Nat.lt_trans hj q)]; exact e'⟩, k⟩
    · rw [List.getElem?_append_right (Nat.le_of_not_lt q)] at e
      have q1 : i - ps.length < 1 := (List.getElem?_eq_some_iff.mp e).1
      have q2 : i - ps.length = 0 := by omega
      rw [q2] at e
      have e3 : (y, r.1) = (a, z) := Option.some.inj e
      injection e3 with e4 e5
      obtain ⟨p, hp, ep⟩ := List.mem_map.mp hk
      obtain ⟨j, hj, ej⟩ := List.mem_iff_getElem.mp hp
      refine ⟨⟨j, p.2, by omega, ?_⟩, r, hr, e5, e4 ▸ hy⟩
      rw [List.getElem?_append_left hj, List.getElem?_eq_getElem hj, ej, ← e5, ← ep]
  nodes := fun a ha => by
    have ha' : a ∈ (ps ++ [(y, r.1)]).map (·.1) := ha
    rw [List.map_append] at ha'
    rcases List.mem_append.mp ha' with q | q
    · exact h.nodes a q
    · rw [List.mem_singleton.mp q]
      exact ok.nbs r hr y hy
theorem Part.done {t : List Row} {x : Row} {ps : List (Str × Str)} (h : Part t x.1 ps) (ok : OkTree t) (hx : x ∈ t) (cl : ∀ r ∈ t, r.1 ∈ keysS ps → ∀ y ∈ r.2.2, y ∈ keysS ps) : StepsOk t x.1 ps where
  first := h.first
  nodup := h.nodup
  step := h.step
  nodes := h.nodes
  all := ok.conn (fun y => y ∈ keysS ps) ⟨x, hx, List.mem_map.mpr ⟨(x.1, x.1), List.mem_of_getElem? h.first, rfl⟩⟩ cl
/-- the heap within the search -/
structure StH (H H' : Hp) (p q : Addr) (ps : List (Str × Str)) (ws : List Str) : Prop where
  kp : ∀ b o, H b = some o → H' b = some o
  p : H' p = some (.dK (kvS ps))
  q : H' q = some (.lst (ws.map V.str))
theorem StH.ne {H H' : Hp} {p q : Addr} {ps : List (Str × Str)} {ws : List Str} (h : StH H H' p q ps ws) : q ≠ p := fun z => by
  have := h.q
  rw [z, h.p] at this
  cases this
section
variable {P : Program} {w : World} {K : PySem.W.Frag} {mg : Str → Option Value} {base : Heap} {f c p1 : Addr} {fd : FuncData} {Ps : List Addr}
theorem ok_steps (F : FunD K "steps_to" "steps_to" (defArgs sSteps) (defBody sSteps) (defScope sSteps) [] [] f fd) : FnOk P w K mg base CX0 1 f fd ["tree", "target"] spSteps := by
  refine F.ok scSteps (fun vs H Q E h => ?_) ?_
  · obtain ⟨d, t, x, rfl, _⟩ := h
    rfl
  intro cdv A outer s H vs Q E hr h
  refine ⟨_, PSs.nox (pss_cons (ps_set (i := 2) scSteps.nd rfl (Or.inl rfl) (pe_disp (pps_cons (pv 1) (pv 1) pps_nil) rfl rfl (by decide) (by decide)))
    (pss_cons (ps_set (i := 3) scSteps.nd rfl (Or.inl rfl) (pe_lst (pa_cons (pv 1) pa_nil)))
    (pss_cons (ps_while PassesOwn.never (pt_truth (pv 3) (by intro _; rfl))
      (pss_cons (ps_set (i := 4) scSteps.nd rfl (Or.inl rfl) (pe_bm0 PySem.F.plainAttrs_list PySem.F.slot_list_pop PySem.F.type_list_pop mt_pop (pv 3)))
      (pss_one (ps_for PassesOwn.never rfl (pi_list (pe_dget (hu_of hr) (pv 0) (pv 4) (fun _ _ => rfl))) (pg_name (i := 5) scSteps.nd rfl (Or.inl rfl))
        (pss_one (ps_if (pt_cmp (pc_dnotin (hu_of hr) (pv 5) (pv 2)))
          (pss_cons (ps_dput (hu_of hr) (pv 2) (pv 5) (pv 4) rfl)
          (pss_one (ps_expr (pe_bm PySem.F.plainAttrs_list PySem.F.slot_list_append PySem.F.type_list_append mt_append (pv 3) (pa_cons (pv 5) pa_nil)))))
          pss_nil))))))
    (pss_one (ps_ret (pv 2)))))), ?_⟩
  obtain ⟨d, t, x, rfl, T, ok, hx, hQ⟩ := h
  refine fun p hp => ⟨_, rfl, _, rfl, upd_same, [(Sum.inr x.1, .str x.1)], rfl, by show 1 ≤ 15; decide, ?_⟩
  refine ⟨_, rfl, by show 1 ≤ sizeLine; decide, fun q hq => ?_⟩
  have pq : p ≠ q := fun z => by rw [← z, upd_same] at hq; cases hq
  have hq0 : H q = none := by
    rw [upd_ne (Ne.symm pq), upd_ne (Ne.symm pq)] at hq
    exact hq
  refine ⟨fun m σ H' => ∃ ps ws v4 v5, m = 2 * (t.length - ps.length) + ws.length ∧ m ≤ 80 ∧ σ = [some (.ref d), some (.str x.1), some (.ref p), some (.ref q), v4, v5] ∧ StH H H' p q ps ws ∧ Part t x.1 ps ∧
    (∀ y ∈ ws, y ∈ keysS ps) ∧ ∀ r ∈ t, r.1 ∈ keysS ps → r.1 ∉ ws → ∀ y ∈ r.2.2, y ∈ keysS ps, ⟨_, [(x.1, x.1)], [x.1], none, none, rfl, ?_, rfl, ⟨fun b o e => ?_, ?_, ?_⟩, .start hx, fun y hy => hy, fun r hr hk hn => (hn hk).elim⟩, ?_⟩
  · have := ok.n40
    simp only [List.length_singleton]
    omega
  · rw [upd_ne (ne_of_none e hq0), upd_ne (ne_of_none e hp), upd_ne (ne_of_none e hp)]
    exact e
  · rw [upd_ne pq]
    exact upd_same
  · exact upd_same
  rintro m σ H1 ⟨ps, ws, v4, v5, rfl, h80, rfl, S, Pt, hw, cl⟩
  refine ⟨_, rfl, !(ws.map V.str).isEmpty, .inl ⟨_, .inl (.inl S.q), rfl⟩, ?_⟩
  cases hws : ws with
  | nil =>
    subst hws
    refine iteF ?_
    refine ⟨_, rfl, hQ _ p ps hp S.p (Pt.done ok hx fun r hr hk => cl r hr hk List.not_mem_nil) S.kp⟩
  | cons w0 wr =>
    refine iteT ?_
    rw [← hws]
    have wne : ws ≠ [] := by rw [hws]; exact List.cons_ne_nil _ _
    clear hws
    refine ⟨fun σ' H' => ∃ ps' ws' v4 v5, 2 * (t.length - ps'.length) + ws'.length < 2 * (t.length - ps.length) + ws.length ∧ σ' = [some (.ref d), some (.str x.1), some (.ref p), some (.ref q), v4, v5] ∧ StH H H' p q ps' ws' ∧ Part t x.1 ps' ∧
      (∀ y ∈ ws', y ∈ keysS ps') ∧ ∀ r ∈ t, r.1 ∈ keysS ps' → r.1 ∉ ws' → ∀ y ∈ r.2.2, y ∈ keysS ps', fun σ' H' ⟨ps', ws', v4, v5, lt, r⟩ => ⟨_, lt, ps', ws', v4, v5, rfl, Nat.le_trans (Nat.le_of_lt lt) h80, r⟩, ?_⟩
    obtain ⟨v, hv, hsp⟩ : ∃ v, ws.getLast? = some v ∧ ws = ws.dropLast ++ [v] := ⟨_, List.getLast?_eq_some_getLast wne, (List.dropLast_concat_getLast wne).symm⟩
    have hvm : v ∈ ws := List.mem_of_getLast? hv
    obtain ⟨r, hr', er⟩ := Pt.nodes v (hw v hvm)
    subst er
    refine ⟨_, rfl, .inl ⟨rfl, _, .inl (.inl S.q)⟩, q, ws.map V.str, .str r.1, rfl, rfl, S.q, ?_, ?_⟩
    · rw [List.length_map, List.getElem?_map, ← List.getLast?_eq_getElem?, hv]
      rfl
    have S1 : StH H (upd H1 q (.lst (ws.dropLast.map V.str))) p q ps ws.dropLast := ⟨fun b o e => by rw [upd_ne (ne_of_none e hq0)]; exact S.kp b o e, by rw [upd_ne pq]; exact S.p, upd_same⟩
    have dl : (ws.map V.str).dropLast = ws.dropLast.map V.str := (List.map_dropLast).symm
    rw [dl]
    have T1 : TreeAt (upd H1 q (.lst (ws.dropLast.map V.str))) d t := ⟨T.d.elim (fun e => .inl (S1.kp _ _ e)) fun ⟨o, e⟩ => .inr ⟨o, S1.kp _ _ e⟩, fun r hr => S1.kp _ _ (T.rows r hr)⟩
    have wl : ws.dropLast.length + 1 = ws.length := by
      have := congrArg List.length hsp
      rw [List.length_append] at this
      exact this.symm
    refine ⟨_, rfl, _, rfl, d, _, rfl, T1.get ok hr', r.2.1, rfl, ⟨_, T1.row hr' K⟩, ?_⟩
    refine for_list (K := K) (xs := r.2.2.map V.str) (fun i σ' H' => ∃ ps' ws' v5, 2 * (t.length - ps'.length) + ws'.length < 2 * (t.length - ps.length) + ws.length ∧ σ' = [some (.ref d), some (.str x.1), some (.ref p), some (.ref q), some (.str r.1), v5] ∧ StH H H' p q ps' ws' ∧ Part t x.1 ps' ∧
      (∀ y ∈ ws', y ∈ keysS ps') ∧ r.1 ∈ keysS ps' ∧ (∀ s ∈ t, s.1 ∈ keysS ps' → s.1 ∉ ws' → s.1 ≠ r.1 → ∀ y ∈ s.2.2, y ∈ keysS ps') ∧ ∀ j, j < i → ∀ y, r.2.2[j]? = some y → y ∈ keysS ps')
      ⟨ps, ws.dropLast, v5, by omega, rfl, S1, Pt, fun y hy => hw y (by rw [hsp]; exact List.mem_append_left _ hy), hw _ hvm, fun s hs hk hn ne => cl s hs hk fun z => ?_, fun j hj => absurd hj (Nat.not_lt_zero _)⟩
      (fun i σ' H' _ ⟨ps', ws', v5, _, _, S', _⟩ => .inl (.inl (S'.kp _ _ (T.rows r hr')))) ?_ ?_
    · rw [hsp] at z
      rcases List.mem_append.mp z with z | z
      · exact hn z
      · exact ne (List.mem_singleton.mp z)
    · rintro i xv σ' H' hxi ⟨ps', ws', v5, lt, rfl, S', Pt', hw', hrk, cl', don⟩
      rw [List.getElem?_map] at hxi
      cases hy : r.2.2[i]? with
      | none => rw [hy] at hxi; cases hxi
      | some y =>
        rw [hy] at hxi
        cases hxi
        have hyr : y ∈ r.2.2 := List.mem_of_getElem? hy
        refine ⟨_, rfl, _, rfl, p, _, rfl, .inl ⟨_, Sum.inr y, .inl S'.p, rfl, rfl⟩, _, rfl, ?_⟩
        rw [kvS_get]
        by_cases hk : y ∈ keysS ps'
        · rw [decide_eq_true hk]
          refine iteF ?_
          exact ⟨ps', ws', _, lt, rfl, S', Pt', hw', hrk, cl', fun j hj y' hy' => by
            by_cases z : j = i
            · rw [z, hy] at hy'
              cases hy'
              exact hk
            · exact don j (by omega) y' hy'⟩
        · rw [decide_eq_false hk]
          refine iteT ?_
          have Pt2 := Pt'.add ok hr' hrk hyr hk
          have l2 := Pt2.len
          have l3 := ok.n40
          rw [List.length_append] at l2
          simp only [List.length_singleton] at l2
          refine ⟨_, rfl, _, rfl, _, rfl, p, _, rfl, DPut.k (k := Sum.inr y) S'.p (by rw [kvS, List.length_map, sizeLine_eq]; omega), ?_⟩
          rw [kvS_put r.1 hk]
          have hk0 : y ∉ ws' := fun z => hk (hw' y z)
          have yk : y ∈ keysS (ps' ++ [(y, r.1)]) := by
            show y ∈ (ps' ++ [(y, r.1)]).map (·.1)
            rw [List.map_append]
            exact List.mem_append_right _ (List.mem_singleton.mpr rfl)
          have mono : ∀ z, z ∈ keysS ps' → z ∈ keysS (ps' ++ [(y, r.1)]) := fun z hz => by
            show z ∈ (ps' ++ [(y, r.1)]).map (·.1)
            rw [List.map_append]
            exact List.mem_append_left _ hz
          have qp := S'.ne
          refine ⟨_, rfl, .inl ⟨rfl, _, .inl (.inl (by rw [upd_ne qp]; exact S'.q))⟩, _, rfl, q, ws'.map V.str, .str y, rfl, rfl, by rw [upd_ne qp]; exact S'.q, by rw [List.length_map, sizeLine_eq]; omega, ?_⟩
          refine ⟨ps' ++ [(y, r.1)], ws' ++ [y], _, ?_, rfl, ⟨fun b o e => ?_, ?_, ?_⟩, Pt2, fun z hz => ?_, mono _ hrk, fun s hs hks hns ne y' hy' => ?_, fun j hj y' hy' => ?_⟩
          · rw [List.length_append, List.length_append]
            simp only [List.length_singleton]
            omega
          · rw [upd_ne (ne_of_none e hq0), upd_ne (ne_of_none e hp)]
            exact S'.kp b o e
          · rw [upd_ne (Ne.symm qp)]
            exact upd_same
          · rw [upd_same, List.map_append]
            rfl
          · rcases List.mem_append.mp hz with z' | z'
            · exact mono _ (hw' z z')
            · rw [List.mem_singleton.mp z']
              exact yk
          · by_cases e : s.1 = y
            · exact (hns (List.mem_append_right _ (List.mem_singleton.mpr e))).elim
            · have : s.1 ∈ keysS ps' := by
                have h' : s.1 ∈ (ps' ++ [(y, r.1)]).map (·.1) := hks
                rw [List.map_append] at h'
                rcases List.mem_append.mp h' with z | z
                · exact z
                · exact (e (List.mem_singleton.mp z)).elim
              exact mono _ (cl' s hs this (fun z => hns (List.mem_append_left _ z)) ne y' hy')
          · by_cases z : j = i
            · rw [z, hy] at hy'
              cases hy'
              exact yk
            · exact mono _ (don j (by omega) y' hy')
    · rintro σ' H' ⟨ps', ws', v5, lt, rfl, S', Pt', hw', hrk, cl', don⟩
      refine ⟨ps', ws', _, _, lt, rfl, S', Pt', hw', fun s hs hk hn => ?_⟩
      by_cases e : s.1 = r.1
      · rw [ok.one hs hr' e]
        intro y hy
        obtain ⟨j, hj, ej⟩ := List.mem_iff_getElem.mp hy
        exact don j (by rw [List.length_map]; exact hj) y (by rw [List.getElem?_eq_getElem hj, ej])
      · exact cl' s hs hk hn e
end
end A8
set_option Elab.async false
set_option linter.all false
set_option maxRecDepth 100000
set_option maxHeartbeats 4000000
namespace A8
open PySem PySem.Spec PyProof.Rows L2 AL
open GxR (TabB TabG Tabbed)
abbrev sPiece : Stmt := top 10
theorem scPiece : FnScope ["graph", "ends", "node"] ["graph"] (defScope sPiece) := ⟨rfl, rfl, rfl, by decide +kernel, rfl, by decide +kernel, by decide +kernel⟩
def spPiece : Sp := fun vs H Q _ => ∃ (d : Addr) (t : List Row), vs = [.ref d] ∧ H d = some (.dK (kvsOf t)) ∧ RowsAt H t ∧ OkTree t ∧ ∀ H', Same H H' → Q (.bl true) H'
def rLenQ (K : PySem.W.Frag) : List V → Hp → VK → Prop := fun xs H Q => ∃ p ys, xs = [V.ref p] ∧ (SqL K H p ys ∨ SqT K H p ys) ∧ Q (V.int ys.length) H
theorem min_of : ∀ {l : List Str}, l ≠ [] → ∃ m ∈ l, ∀ k ∈ l, ¬ sLt k m
  | [], h => (h rfl).elim
  | [a], _ => ⟨a, List.mem_cons_self, fun k hk => by rw [List.mem_singleton.mp hk]; exact sLt_irrefl _⟩
  | a :: b :: r, _ => by
    obtain ⟨m, hm, hk⟩ := min_of (l := b :: r) (List.cons_ne_nil _ _)
    by_cases h : sLt a m
    · exact ⟨a, List.mem_cons_self, fun k hk' => by
        rcases List.mem_cons.mp hk' with rfl | z
        · exact sLt_irrefl _
        · exact fun q => hk k z (sLt_tr q h)⟩
    · exact ⟨m, List.mem_cons_of_mem _ hm, fun k hk' => by
        rcases List.mem_cons.mp hk' with rfl | z
        · exact h
        · exact hk k z⟩
theorem StepsOk.len {t : List Row} {x : Str} {ps : List (Str × Str)} (h : StepsOk t x ps) (ok : OkTree t) : ps.length = t.length := by
  have h1 := OkTree.deg.nodup_sub (ys := t.map (·.1)) h.nodup fun y hy => let ⟨r, hr, e⟩ := h.nodes y hy; List.mem_map.mpr ⟨r, hr, e⟩
  have h2 := OkTree.deg.nodup_sub (ys := ps.map (·.1)) ok.nodup fun y hy => by
    obtain ⟨r, hr, e⟩ := List.mem_map.mp hy
    rw [← e]
    exact h.all r hr
  rw [List.length_map, List.length_map] at h1 h2
  omega
def degs (t : List Row) : List Int := t.map fun r => (r.2.2.length : Int)
theorem degs_sum : ∀ t : List Row, (degs t).sum = (((t.map fun r => r.2.2.length).sum : Nat) : Int)
  | [] => rfl
  | r :: t => by
    have := degs_sum t
    show (r.2.2.length : Int) + (degs t).sum = ((r.2.2.length + (t.map fun r => r.2.2.length).sum : Nat) : Int)
    rw [this]
    omega
section
variable {P : Program} {w : World} {K : PySem.W.Frag} {mg : Str → Option Value} {base : Heap} {f c p1 : Addr} {fd : FuncData} {Ps : List Addr}
theorem ok_piece (F : FunD K "_is_one_piece_without_cycles" "_is_one_piece_without_cycles" (defArgs sPiece) (defBody sPiece) (defScope sPiece) [] [] f fd) (cS : Cal P w K mg base 1 "steps_to" spSteps)
    (gS : mg "sum" = none) (gL : mg "len" = none) (gM : mg "min" = none) : FnOk P w K mg base CX0 2 f fd ["graph"] spPiece := by
  refine F.ok scPiece (fun vs H Q E h => ?_) ?_
  · obtain ⟨d, t, rfl, _⟩ := h
    rfl
  intro cdv A outer s H vs Q E hr h
  refine ⟨_, PSs.nox (pss_cons (ps_set (i := 1) scPiece.nd rfl (Or.inl rfl) (pe_lock (pe_callB (cr_sum rfl) rfl gS (by decide +kernel) (pa_cons (pe_lc (own := [("node", 2)]) (g := gName 2) (tt := tYes) (te := tCB (rLenQ K) (tCons (tDGet (tVar 0) (tVar 2)) tNil)) rfl scPiece.nd (pi_keys (pv 0)) (blkOk_by (N := ["graph", "ends", "node"]) (sc := defScope sPiece) (by decide +kernel))
      (fun _ _ _ _ _ => pg_name (i := 2) scPiece.nd rfl (Or.inl rfl)) (fun _ _ _ _ _ => pts_nil) (fun _ _ _ _ _ => pe_callB call_len_seq rfl gL boot_len (pa_cons (pe_dget (hu_of hr) (pv 0) (pv 2) (fun _ _ => rfl)) pa_nil))) pa_nil))))
    (pss_one (ps_ret (pe_and (pe_cmpR op_eq (pv 1) (pe_op op_sub (pe_op op_mul pe_int (pe_callB call_lenD rfl gL boot_len (pa_cons (pv 0) pa_nil))) pe_int) rfl)
      (pe_one (pe_cmpR op_eq (pe_callB call_lenD rfl gL boot_len (pa_cons (pe_c cS hr (by decide) rfl (pa_cons (pv 0) (pa_cons (pe_callB (call_minD rfl) rfl gM (by decide +kernel) (pa_cons (pv 0) pa_nil)) pa_nil))) pa_nil)) (pe_callB call_lenD rfl gL boot_len (pa_cons (pv 0) pa_nil)) rfl)))))), ?_⟩
  obtain ⟨d, t, rfl, hd, hR, ok, hQ⟩ := h
  refine ⟨d, _, hd, trivial, fun od => ?_⟩
  have hR0 : RowsAt (upd H d (.frz od (.dK (kvsOf t)))) t := rows_lock hd hR
  refine ⟨_, rfl, d, od, rfl, .inl ⟨kvsOf t, upd_same, fun D hD => ?_⟩⟩
  have Dd : D ≠ d := fun z => by rw [z, upd_same] at hD; cases hD
  have HD : H D = none := by
    rw [upd_ne Dd] at hD
    exact hD
  have T0 : TreeAt (upd H d (.frz od (.dK (kvsOf t)))) d t := ⟨.inr ⟨od, upd_same⟩, hR0⟩
  have keep : ∀ {b : Addr} {o u : HO}, upd H d (.frz od (.dK (kvsOf t))) b = some o → upd (upd H d (.frz od (.dK (kvsOf t)))) D u b = some o := fun e => by
    rw [upd_ne (ne_of_none e hD)]
    exact e
  refine lc_it walk_keys (fun i H' => H' = upd (upd H d (.frz od (.dK (kvsOf t)))) D (.lst ((degs (t.take i)).map V.int))) rfl (fun i H' _ e => by rw [e]; exact keep upd_same) ?_ ?_
  · rintro i x H1 H' hi rfl ⟨rfl, k, v, hk, rfl⟩
    obtain ⟨r, hr, hrt, rfl, rfl⟩ := kvsOf_at hk
    have T1 : TreeAt (upd (upd H d (.frz od (.dK (kvsOf t)))) D (.lst ((degs (t.take i)).map V.int))) d t := ⟨.inr ⟨od, keep upd_same⟩, fun r hr => keep (hR0 r hr)⟩
    refine ⟨rfl, _, rfl, _, rfl, d, _, rfl, T1.get ok hrt, r.2.1, _, rfl, .inl (T1.row hrt K), _, upd_same, ?_, ?_⟩
    · have := ok.n40
      rw [degs, List.map_map, List.length_map, List.length_take, sizeLine_eq]
      omega
    · rw [upd_upd, degs, degs, List.take_succ, hr, List.map_append, List.map_append, List.length_map]
      rfl
  · rintro H' rfl
    refine ⟨D, degs t, rfl, .inl (.inl (by rw [upd_same, kvsOf_len, List.take_length])), keep upd_same, ?_⟩
    have hL : Same H (upd (upd (upd H d (.frz od (.dK (kvsOf t)))) D (.lst ((degs (t.take (kvsOf t).length)).map V.int))) d (.dK (kvsOf t))) := fun b o e => by
      by_cases z : b = d
      · rw [z] at e ⊢
        rw [upd_same, ← e, hd]
      · rw [upd_ne z, upd_ne (ne_of_none e HD), upd_ne z]
        exact e
    generalize upd (upd (upd H d (.frz od (.dK (kvsOf t)))) D (.lst ((degs (t.take (kvsOf t).length)).map V.int))) d (.dK (kvsOf t)) = HL at hL
    have TL : TreeAt HL d t := ⟨.inl (hL _ _ hd), fun r hr => hL _ _ (hR r hr)⟩
    have n1 := ok.n1
    have n40 := ok.n40
    refine ⟨_, rfl, _, rfl, d, _, rfl, hL _ _ hd, _, _, rfl, rfl, .inl ⟨by decide, by decide⟩, _, _, rfl, rfl, rfl, true, ?_, iteT ?_⟩
    · refine congrArg V.bl (decide_eq_true (congrArg V.int ?_))
      have e1 := degs_sum t
      have e2 := ok.ends
      rw [kvsOf_len, e1]
      omega
    obtain ⟨m, hm, hmin⟩ := min_of (l := t.map (·.1)) (fun z => by
      rw [List.map_eq_nil_iff] at z
      rw [z] at n1
      exact absurd n1 (by decide))
    refine ⟨_, rfl, _, rfl, d, kvsOf t, t.map (·.1), rfl, .inl (hL _ _ hd), by unfold kvsOf; rw [List.map_map, List.map_map]; rfl, fun z => ?_, fun m' hm' hmin' => ?_⟩
    · rw [z] at hm
      cases hm
    obtain ⟨r, hr', er⟩ := List.mem_map.mp hm'
    subst er
    refine ⟨d, t, r, rfl, TL, ok, hr', fun H3 p ps hp hp3 so same => ?_⟩
    refine ⟨p, _, rfl, hp3, _, rfl, d, _, rfl, same _ _ (hL _ _ hd), rfl, ?_⟩
    have e : decide (V.int ((kvS ps).length : Int) = V.int ((kvsOf t).length : Int)) = true := decide_eq_true (by rw [kvsOf_len, kvS, List.length_map, so.len ok])
    show Q (.bl (decide (V.int ((kvS ps).length : Int) = V.int ((kvsOf t).length : Int)))) H3
    rw [e]
    exact hQ _ (hL.trans same)
end
end A8
set_option Elab.async false
set_option linter.all false
set_option maxRecDepth 100000
set_option maxHeartbeats 4000000
namespace A8
open PySem PySem.Spec PyProof.Rows L2 AL
open GxR (TabB TabG Tabbed)
section
variable {Ps : List Addr} {H H1 : Hp} {d : Addr} {u : HO} {o : Obj}
theorem Ext.unlock (hd : H d = some u) (n : ∀ ps, u ≠ .tbl ps) (e : Ext Ps (upd H d (.frz o u)) H1) : Ext Ps H (upd H1 d u) where
  kp := fun b v h z => by
    by_cases q : b = d
    · rw [q] at h ⊢
      rw [upd_same, ← h, hd]
    · rw [upd_ne q]
      exact e.kp b v (by rw [upd_ne q]; exact h) z
  tb := fun p hp h => by
    obtain ⟨ps, e1, e2⟩ := h
    have q : p ≠ d := fun q => by
      rw [q, hd] at e1
      exact n ps (Option.some.inj e1)
    obtain ⟨ps', e3, e4⟩ := e.tb p hp ⟨ps, by rw [upd_ne q]; exact e1, e2⟩
    exact ⟨ps', by rw [upd_ne q]; exact e3, e4⟩
theorem Ext.lockd (ht : Tabs Ps H) (hd : H d = some u) (n : ∀ ps, u ≠ .tbl ps) (e : Ext Ps (upd H d (.frz o u)) H1) : H1 d = some (.frz o u) :=
  e.kp d _ upd_same (notPs' ht hd n)
theorem Ext.same (h : Same H H1) : Ext Ps H H1 := ⟨fun b o e _ => h b o e, fun p _ ⟨ps, e, t⟩ => ⟨ps, h _ _ e, t⟩⟩
end
theorem quant_keys {K : PySem.W.Frag} {Ps : List Addr} {p1 d : Addr} {kvs : List (Key × V)} {g : TG} {te : TE} {vs : List Nat} {σ : L2.St} {H : Hp} {Q : VK} (hp : p1 ∈ Ps) (hd : H d = some (.dK kvs)) (h0 : σ[0]? = some (some (.ref d))) (ht : Tabs Ps H)
    (hs : ∀ (od : Obj) (i : Nat) (k : Key) (v : V) (H1 : Hp) (Nx : VK), kvs[i]? = some (k, v) → Ext Ps (upd H d (.frz od (.dK kvs))) H1 → Tabs Ps (upd H d (.frz od (.dK kvs))) → (∀ H3, Ext Ps (upd H d (.frz od (.dK kvs))) H3 → Nx (.bl true) H3) →
      g (kV k) (wipe σ vs) H1 fun σ2 H2 => wipe σ2 vs = wipe σ vs ∧ te σ2 H2 Nx)
    (hQ : ∀ H', Ext Ps H H' → Q (.bl true) H') : tLockE (tQuant K p1 false (iKeys (tVar 0)) g te vs) σ H Q := by
  refine ⟨d, _, hd, trivial, fun od => ?_⟩
  have nT : ∀ ps, HO.dK kvs ≠ .tbl ps := fun _ z => by cases z
  have t0 : Tabs Ps (upd H d (.frz od (.dK kvs))) := tabs_upd ht (notPs' ht hd nT)
  refine ⟨_, h0, d, od, rfl, .inl ⟨kvs, upd_same, t0 _ hp, fun H2 hT => ?_⟩⟩
  exact all_keys (fun H' => Ext Ps (upd H d (.frz od (.dK kvs))) H') (Ext.tabbed hp hT) (fun H' e => e.lockd ht hd nT) (fun i k v H1 Nx hk e hN => hs od i k v H1 Nx hk e t0 hN)
    fun H' e => ⟨e.lockd ht hd nT, hQ _ (e.unlock hd nT)⟩
abbrev sIsTree : Stmt := top 8
theorem scIsTree : FnScope ["value", "node", "other"] ["value"] (defScope sIsTree) := ⟨rfl, rfl, rfl, by decide +kernel, rfl, by decide +kernel, by decide +kernel⟩
def spIsTree (Ps : List Addr) : Sp := fun vs H Q _ => ∃ (d : Addr) (t : List Row), vs = [.ref d] ∧ H d = some (.dK (kvsOf t)) ∧ RowsAt H t ∧ OkTree t ∧ Tabs Ps H ∧ ∀ H', Ext Ps H H' → Q (.bl true) H'
section
variable {P : Program} {w : World} {K : PySem.W.Frag} {mg : Str → Option Value} {base : Heap} {f c p1 : Addr} {fd : FuncData} {Ps : List Addr}
theorem ok_isTree (F : FunD K "is_tree" "is_tree" (defArgs sIsTree) (defBody sIsTree) (defScope sIsTree) [] [] f fd) (hc : fd.code = .ref c) (TB : TabB base mg c p1) (hp : p1 ∈ Ps)
    (cN : Cal P w K mg base 2 "is_name" (spIsName Ps)) (cL : Cal P w K mg base 3 "_has_proper_list" (spHasList Ps)) (cP : Cal P w K mg base 2 "_is_one_piece_without_cycles" spPiece)
    (gI : mg "isinstance" = none) (gA : mg "all" = none) (gL : mg "len" = none) (gD : mg "dict" = none) {tk : Tok} (gM : mg "MOST_NODES" = some (.int 40 tk)) : FnOk P w K mg base CX0 5 f fd ["value"] (spIsTree Ps) := by
  refine okC F hc scIsTree (fun vs H Q E h => ?_) ?_
  · obtain ⟨d, t, rfl, _⟩ := h
    rfl
  intro A outer s H vs Q E hr h
  refine ⟨_, pss_one (ps_ret (pe_and (pe_callB call_isi rfl gI (by decide +kernel) (pa_cons (pv 0) (pa_cons (pe_bltn (u := .type "dict") (v := .ty "dict") rfl gD (by decide +kernel) rfl) pa_nil)))
      (pe_and (pe_chain op_le op_le pe_int (pe_callB call_lenD rfl gL boot_len (pa_cons (pv 0) pa_nil)) (pe_glob (v := .int 40) rfl gM ⟨_, rfl⟩))
        (pe_and (pe_lock (pe_allG (k := 3) (own := [("node", 1)]) hr rfl scIsTree.nd rfl gA TB rfl (gOk_by (N := ["value", "node", "other"]) (sc := defScope sIsTree) (by decide +kernel) rfl (by decide +kernel) rfl) (pi_keys (pv 0)) (fun s H C cl code fp A pn => pg_name (i := 1) scIsTree.nd rfl (Or.inl rfl))
          (fun s H C cl code fp A pn hr => pe_c cN hr (by decide) rfl (pa_cons (pv 1) pa_nil))))
        (pe_and (pe_lock (pe_allG (k := 3) (own := [("node", 1)]) hr rfl scIsTree.nd rfl gA TB rfl (gOk_by (N := ["value", "node", "other"]) (sc := defScope sIsTree) (by decide +kernel) rfl (by decide +kernel) rfl) (pi_keys (pv 0)) (fun s H C cl code fp A pn => pg_name (i := 1) scIsTree.nd rfl (Or.inl rfl))
          (fun s H C cl code fp A pn hr => pe_c cL hr (by decide) rfl (pa_cons (pv 0) (pa_cons (pv 1) pa_nil)))))
        (pe_and (pe_lock (pe_allG2 (k := 3) (own := [("node", 1), ("other", 2)]) (vs0 := [1]) (vs1 := [2]) (wi1 := iList K (tDGet (tVar 0) (tVar 1))) (te := tOp (rIn K false) (tVar 1) (tDGet (tVar 0) (tVar 2))) hr rfl scIsTree.nd rfl gA TB rfl (gOk_by (N := ["value", "node", "other"]) (sc := defScope sIsTree) (by decide +kernel) rfl (by decide +kernel) rfl) (pi_keys (pv 0)) (fun s H C cl code fp A pn => pg_name (i := 1) scIsTree.nd rfl (Or.inl rfl))
          (fun s H C cl code fp A pn hr => pi_list (pe_dget (hu_of hr) (pv 0) (pv 1) (fun _ _ => rfl)))
          (fun s H C cl code fp A pn => pg_name (i := 2) scIsTree.nd rfl (Or.inl rfl))
          (fun s H C cl code fp A pn hr => pe_cmpR op_in_seq (pv 1) (pe_dget (hu_of hr) (pv 0) (pv 2) (fun _ _ => rfl)) rfl)))
          (pe_one (pe_c cP hr (by decide) rfl (pa_cons (pv 0) pa_nil))))))))), ?_⟩
  obtain ⟨d, t, rfl, hd, hR, ok, ht, hQ⟩ := h
  have n1 := ok.n1
  have n40 := ok.n40
  refine ⟨_, rfl, _, _, .type "dict", .type "dict", true, rfl, .ty "dict", .base (.dK hd), kit_ty (by decide +kernel), true, rfl, iteT ?_⟩
  refine ⟨_, rfl, d, _, rfl, hd, _, _, rfl, rfl, true, congrArg V.bl (decide_eq_true (by rw [kvsOf_len]; omega)), iteT ?_⟩
  refine ⟨_, _, rfl, rfl, true, congrArg V.bl (decide_eq_true (by rw [kvsOf_len]; omega)), iteT ?_⟩
  refine quant_keys hp hd rfl ht (fun od i k v H1 Nx hk e t0 hN => ?_) fun HA eA => ⟨true, rfl, iteT ?_⟩
  · obtain ⟨r, hr, hrt, rfl, rfl⟩ := kvsOf_at hk
    exact ⟨rfl, _, rfl, r.1, rfl, ok.names r hrt, e.tabs t0, fun H' e' => hN _ (e.trans e')⟩
  have hdA := eA.get ht hd fun _ z => by cases z
  have hRA := eA.rows ht hR
  have htA := eA.tabs ht
  refine quant_keys hp hdA rfl htA (fun od i k v H1 Nx hk e t0 hN => ?_) fun HB eB => ⟨true, rfl, iteT ?_⟩
  · obtain ⟨r, hr, hrt, rfl, rfl⟩ := kvsOf_at hk
    have T1 : TreeAt H1 d t := ⟨.inr ⟨od, e.lockd htA hdA fun _ z => by cases z⟩, e.rows t0 (rows_lock hdA hRA)⟩
    exact ⟨rfl, _, rfl, _, rfl, d, t, r, rfl, T1, ok, hrt, e.tabs t0, fun H' e' => hN _ (e.trans e')⟩
  have hdB := eB.get htA hdA fun _ z => by cases z
  have hRB := eB.rows htA hRA
  have htB := eB.tabs htA
  have nT : ∀ ps, HO.dK (kvsOf t) ≠ .tbl ps := fun _ z => by cases z
  refine ⟨d, _, hdB, trivial, fun od => ?_⟩
  have t0 : Tabs Ps (upd HB d (.frz od (.dK (kvsOf t)))) := tabs_upd htB (notPs' htB hdB nT)
  refine ⟨_, rfl, d, od, rfl, .inl ⟨kvsOf t, upd_same, t0 _ hp, fun H2 hT => ?_⟩⟩
  have e2 := Ext.tabbed hp hT
  have T2 : TreeAt H2 d t := ⟨.inr ⟨od, e2.lockd htB hdB nT⟩, e2.rows t0 (rows_lock hdB hRB)⟩
  refine all_keys2 (e2.lockd htB hdB nT) (fun i => (t.getD i (Str.empty, 0, [])).2.1) (fun i => (t.getD i (Str.empty, 0, [])).2.2.map V.str) 41 (fun i => ?_) (fun i k v hk => ?_) (fun i k v hk R hR1 => ?_) ?_
  · rw [List.length_map, List.getD_eq_getElem?_getD]
    cases q : t[i]? with
    | none => exact Nat.zero_lt_succ _
    | some r => exact Nat.lt_succ_of_le (ok.deg (List.mem_of_getElem? q))
  · obtain ⟨r, hr, hrt, _, _⟩ := kvsOf_at hk
    rw [List.getD_eq_getElem?_getD, hr]
    exact T2.row hrt K
  · obtain ⟨r, hr, hrt, rfl, rfl⟩ := kvsOf_at hk
    rw [List.getD_eq_getElem?_getD, hr] at hR1
    refine hR1 _ rfl (fun R1 ⟨_, h⟩ => ⟨_, rfl, _, rfl, d, _, rfl, T2.get ok hrt, r.2.1, rfl, ⟨_, T2.row hrt K⟩, h⟩) fun j y Nx hy hN => ?_
    have hy' : (r.2.2.map V.str)[j]? = some y := hy
    rw [List.getElem?_map] at hy'
    cases q : r.2.2[j]? with
    | none => rw [q] at hy'; cases hy'
    | some z =>
      rw [q] at hy'
      cases hy'
      have hz : z ∈ r.2.2 := List.mem_of_getElem? q
      obtain ⟨s', hs', es⟩ := ok.nbs r hrt z hz
      subst es
      refine ⟨rfl, _, rfl, _, rfl, _, rfl, d, _, rfl, T2.get ok hs', s'.2.1, _, rfl, .inl (T2.row hs' K), rfl, flat_strs _, ?_⟩
      show Nx (.bl (inV (.str r.1) (s'.2.2.map V.str))) _
      rw [inV_in (ok.sym r hrt s' hs' hz)]
      exact hN
  · refine ⟨e2.lockd htB hdB nT, true, rfl, iteT ?_⟩
    have eC : Ext Ps H (upd H2 d (.dK (kvsOf t))) := eA.trans (eB.trans (e2.unlock hdB nT))
    refine ⟨_, rfl, d, t, rfl, upd_same, eC.rows ht hR, ok, fun H' hs => hQ _ (eC.trans (Ext.same hs))⟩
end
end A8
set_option Elab.async false
set_option linter.all false
set_option maxRecDepth 100000
set_option maxHeartbeats 4000000
namespace A8
open PySem PySem.Spec PyProof.Rows L2 AL
/-! ### a tree that grows by leaves -/
structure Gr (m : Nat) (adj : Nat → List Nat) : Prop where
  far : ∀ v, m < v → adj v = []
  le : ∀ v u, u ∈ adj v → u ≤ m
  sym : ∀ v u, u ∈ adj v → v ∈ adj u
  irr : ∀ v, v ∉ adj v
  nd : ∀ v, (adj v).Nodup
  sum : ((List.range (m + 1)).map fun v => (adj v).length).sum = 2 * m
  conn : ∀ S : Nat → Prop, (∀ v, S v → ∀ u ∈ adj v, S u) → ∀ v w, v ≤ m → w ≤ m → S v → S w
def addE (adj : Nat → List Nat) (k a : Nat) : Nat → List Nat := fun v => if v = k then adj v ++ [a] else if v = a then adj v ++ [k] else adj v
theorem mem_addE {adj : Nat → List Nat} {k a v u : Nat} (ne : k ≠ a) : u ∈ addE adj k a v ↔ u ∈ adj v ∨ (v = k ∧ u = a) ∨ (v = a ∧ u = k) := by
  unfold addE
  by_cases h1 : v = k
  · rw [if_pos h1, List.mem_append, List.mem_singleton]
    constructor
    · rintro (h | h)
      · exact .inl h
      · exact .inr (.inl ⟨h1, h⟩)
    · rintro (h | ⟨_, h⟩ | ⟨h, _⟩)
      · exact .inl h
      · exact .inr h
      · exact (ne (h1.symm.trans h)).elim
  · rw [if_neg h1]
    by_cases h2 : v = a
    · rw [if_pos h2, List.mem_append, List.mem_singleton]
      constructor
      · rintro (h | h)
        · exact .inl h
        · exact .inr (.inr ⟨h2, h⟩)
      · rintro (h | ⟨h, _⟩ | ⟨_, h⟩)
        · exact .inl h
        · exact (h1 h).elim
        · exact .inr h
    · rw [if_neg h2]
      constructor
      · exact .inl
      · rintro (h | ⟨h, _⟩ | ⟨h, _⟩)
        · exact h
        · exact (h1 h).elim
        · exact (h2 h).elim
theorem sum_upd (f g : Nat → Nat) (a : Nat) (h : ∀ v, v ≠ a → g v = f v) (ha : g a = f a + 1) : ∀ n, ((List.range n).map g).sum = ((List.range n).map f).sum + if a < n then 1 else 0
  | 0 => rfl
  | n + 1 => by
    rw [List.range_succ, List.map_append, List.map_append, List.sum_append_nat, List.sum_append_nat, sum_upd f g a h ha n]
    simp only [List.map_cons, List.map_nil, List.sum_cons, List.sum_nil]
    by_cases e : n = a
    · rw [e, ha, if_neg (Nat.lt_irrefl a), if_pos (Nat.lt_succ_self a)]
      omega
    · rw [h n e]
      by_cases l : a < n
      · rw [if_pos l, if_pos (by omega)]
        omega
      · rw [if_neg l, if_neg (by omega)]
        omega
theorem Gr.zero : Gr 0 fun _ => [] where
  far := fun _ _ => rfl
  le := fun _ _ h => absurd h List.not_mem_nil
  sym := fun _ _ h => absurd h List.not_mem_nil
  irr := fun _ => List.not_mem_nil
  nd := fun _ => .nil
  sum := rfl
  conn := fun S _ v w hv hw h => by
    obtain rfl : v = 0 := by omega
    obtain rfl : w = 0 := by omega
    exact h
theorem Gr.step {m a : Nat} {adj : Nat → List Nat} (g : Gr m adj) (h : a ≤ m) : Gr (m + 1) (addE adj (m + 1) a) where
  far := fun v hv => by
    unfold addE
    rw [if_neg (by omega), if_neg (by omega)]
    exact g.far v (by omega)
  le := fun v u hu => by
    rcases (mem_addE (by omega)).mp hu with q | ⟨_, q⟩ | ⟨_, q⟩
    · exact Nat.le_succ_of_le (g.le v u q)
    · omega
    · omega
  sym := fun v u hu => by
    refine (mem_addE (by omega)).mpr ?_
    rcases (mem_addE (by omega)).mp hu with q | ⟨p, q⟩ | ⟨p, q⟩
    · exact .inl (g.sym v u q)
    · exact .inr (.inr ⟨q, p⟩)
    · exact .inr (.inl ⟨q, p⟩)
  irr := fun v hu => by
    rcases (mem_addE (by omega)).mp hu with q | ⟨p, q⟩ | ⟨p, q⟩
    · exact g.irr v q
    · omega
    · omega
  nd := fun v => by
    have no : ∀ {x : Nat}, x ∉ adj v → (adj v ++ [x]).Nodup := fun hx => List.nodup_append.mpr ⟨g.nd v, by simp, fun y hy z hz e => hx (by rw [← List.mem_singleton.mp hz, ← e]; exact hy)⟩
    unfold addE
    by_cases h1 : v = m + 1
    · rw [if_pos h1]
      exact no (by rw [h1, g.far _ (Nat.lt_succ_self m)]; exact List.not_mem_nil)
    · rw [if_neg h1]
      by_cases h2 : v = a
      · rw [if_pos h2]
        exact no fun q => by
          have := g.le _ _ q
          omega
      · rw [if_neg h2]
        exact g.nd v
  sum := by
    have f1 : ∀ v, v ≠ a → (fun v => if v = a then (adj v).length + 1 else (adj v).length) v = (adj v).length := fun v hv => if_neg hv
    have s1 := sum_upd (fun v => (adj v).length) (fun v => if v = a then (adj v).length + 1 else (adj v).length) a f1 (if_pos rfl) (m + 2)
    have s2 := sum_upd (fun v => if v = a then (adj v).length + 1 else (adj v).length) (fun v => (addE adj (m + 1) a v).length) (m + 1) (fun v hv => by
      show (addE adj (m + 1) a v).length = if v = a then (adj v).length + 1 else (adj v).length
      unfold addE
      rw [if_neg hv]
      by_cases e : v = a
      · rw [if_pos e, if_pos e, List.length_append]
        rfl
      · rw [if_neg e, if_neg e]) (by
      show (addE adj (m + 1) a (m + 1)).length = (if m + 1 = a then (adj (m + 1)).length + 1 else (adj (m + 1)).length) + 1
      unfold addE
      rw [if_pos rfl, if_neg (by omega), List.length_append]
      rfl) (m + 2)
    rw [if_pos (by omega)] at s1 s2
    have s3 : ((List.range (m + 2)).map fun v => (adj v).length).sum = ((List.range (m + 1)).map fun v => (adj v).length).sum := by
      rw [List.range_succ, List.map_append, List.sum_append_nat]
      simp only [List.map_cons, List.map_nil, List.sum_cons, List.sum_nil, g.far (m + 1) (Nat.lt_succ_self m)]
      rfl
    have := g.sum
    show ((List.range (m + 2)).map fun v => (addE adj (m + 1) a v).length).sum = _
    omega
  conn := fun S hS v w hv hw hv1 => by
    have cl : ∀ v, S v → ∀ u ∈ adj v, S u := fun v hv u hu => hS v hv u ((mem_addE (by omega)).mpr (.inl hu))
    have ka : S (m + 1) → S a := fun q => hS _ q _ ((mem_addE (by omega)).mpr (.inr (.inl ⟨rfl, rfl⟩)))
    have ak : S a → S (m + 1) := fun q => hS _ q _ ((mem_addE (by omega)).mpr (.inr (.inr ⟨rfl, rfl⟩)))
    have va : S a := by
      by_cases e : v = m + 1
      · exact ka (e ▸ hv1)
      · exact g.conn S cl v a (by omega) h hv1
    by_cases e : w = m + 1
    · exact e ▸ ak va
    · exact g.conn S cl a w h (by omega) va
theorem perm_sum {l k : List Nat} (h : l.Perm k) : l.sum = k.sum := by
  induction h with
  | nil => rfl
  | cons x _ ih => rw [List.sum_cons, List.sum_cons, ih]
  | swap x y l => simp only [List.sum_cons]; omega
  | trans _ _ i1 i2 => exact i1.trans i2
abbrev nmAt (ns : List Str) (v : Nat) : Str := ns.getD v Str.empty
theorem nmAt_eq {ns : List Str} {v : Nat} (h : v < ns.length) : nmAt ns v = ns[v] := by
  rw [nmAt, List.getD_eq_getElem?_getD, List.getElem?_eq_getElem h]
  rfl
theorem nmAt_mem {ns : List Str} {v : Nat} (h : v < ns.length) : nmAt ns v ∈ ns := by
  rw [nmAt_eq h]
  exact List.getElem_mem h
theorem nmAt_inj {ns : List Str} (nd : ns.Nodup) {v u : Nat} (hv : v < ns.length) (hu : u < ns.length) (e : nmAt ns v = nmAt ns u) : v = u := by
  rw [nmAt_eq hv, nmAt_eq hu] at e
  exact (List.getElem_inj nd).mp e
theorem idx_nm {ns : List Str} (nd : ns.Nodup) {v : Nat} (hv : v < ns.length) : ns.idxOf (nmAt ns v) = v := by
  have l : ns.idxOf (nmAt ns v) < ns.length := List.idxOf_lt_length_of_mem (nmAt_mem hv)
  refine nmAt_inj nd l hv ?_
  rw [nmAt_eq l]
  exact List.getElem_idxOf l
theorem okTree_of {n : Nat} {ns : List Str} {adj : Nat → List Nat} {t : List Row} (g : Gr n adj) (hn : ns.length = n + 1) (h40 : n + 1 ≤ 40) (nd : ns.Nodup) (nok : ∀ x ∈ ns, NameOk x) (pm : (t.map (·.1)).Perm ns)
    (rows : ∀ r ∈ t, r.2.2.Perm ((adj (ns.idxOf r.1)).map (nmAt ns)) ∧ sortedS r.2.2 = true) : OkTree t := by
  have tl : t.length = n + 1 := by
    have := pm.length_eq
    rw [List.length_map] at this
    omega
  have isn : ∀ r ∈ t, ∃ v, v < ns.length ∧ r.1 = nmAt ns v ∧ ns.idxOf r.1 = v := fun r hr => by
    have hm : r.1 ∈ ns := pm.subset (List.mem_map.mpr ⟨r, hr, rfl⟩)
    have l := List.idxOf_lt_length_of_mem hm
    exact ⟨_, l, by rw [nmAt_eq l]; exact (List.getElem_idxOf l).symm, rfl⟩
  have row : ∀ v, v < ns.length → ∃ r ∈ t, r.1 = nmAt ns v := fun v hv => by
    obtain ⟨r, hr, e⟩ := List.mem_map.mp (pm.symm.subset (nmAt_mem hv))
    exact ⟨r, hr, e⟩
  have mem : ∀ r ∈ t, ∀ y, y ∈ r.2.2 ↔ ∃ u ∈ adj (ns.idxOf r.1), nmAt ns u = y := fun r hr y => by
    rw [(rows r hr).1.mem_iff, List.mem_map]
  refine ⟨by omega, by omega, fun r hr => ?_, pm.symm.nodup nd, fun r hr y hy => ?_, fun r hr hy => ?_, fun r hr => ⟨(rows r hr).2, ?_⟩, fun r hr s hs hy => ?_, ?_, fun S hS cl => ?_⟩
  · exact nok _ (pm.subset (List.mem_map.mpr ⟨r, hr, rfl⟩))
  · obtain ⟨u, hu, e⟩ := (mem r hr y).mp hy
    obtain ⟨s, hs, es⟩ := row u (by have := g.le _ _ hu; omega)
    exact ⟨s, hs, es.trans e⟩
  · obtain ⟨u, hu, e⟩ := (mem r hr _).mp hy
    obtain ⟨v, hv, e1, e2⟩ := isn r hr
    rw [e2] at hu
    have : u = v := nmAt_inj nd (by have := g.le _ _ hu; omega) hv (by rw [e, e1])
    exact g.irr v (this ▸ hu)
  · refine (rows r hr).1.symm.nodup ?_
    obtain ⟨v, hv, e1, e2⟩ := isn r hr
    rw [e2]
    exact nd_map (g.nd v) fun a ha b hb e => nmAt_inj nd (by have := g.le _ _ ha; omega) (by have := g.le _ _ hb; omega) e
  · obtain ⟨u, hu, e⟩ := (mem r hr _).mp hy
    obtain ⟨v, hv, e1, e2⟩ := isn r hr
    obtain ⟨v', hv', e1', e2'⟩ := isn s hs
    rw [e2] at hu
    have : u = v' := nmAt_inj nd (by have := g.le _ _ hu; omega) hv' (by rw [e, e1'])
    refine (mem s hs _).mpr ⟨v, ?_, e1.symm⟩
    rw [e2', ← this]
    exact g.sym v u hu
  · have e1 : t.map (fun r => r.2.2.length) = (t.map (·.1)).map fun x => (adj (ns.idxOf x)).length := by
      rw [List.map_map]
      refine List.map_congr_left fun r hr => ?_
      have := (rows r hr).1.length_eq
      rw [List.length_map] at this
      exact this
    have e2 : ns.map (fun x => (adj (ns.idxOf x)).length) = (List.range (n + 1)).map fun v => (adj v).length := by
      refine List.ext_getElem (by rw [List.length_map, List.length_map, List.length_range, hn]) fun i h1 h2 => ?_
      rw [List.length_map] at h1
      rw [List.getElem_map, List.getElem_map, List.getElem_range]
      have := idx_nm nd h1
      rw [nmAt_eq h1] at this
      rw [this]
    have e3 := perm_sum (pm.map fun x => (adj (ns.idxOf x)).length)
    have := g.sum
    rw [e1, e3, e2, this, tl]
    omega
  · obtain ⟨r, hr, h1⟩ := hS
    obtain ⟨v, hv, e1, e2⟩ := isn r hr
    intro s hs
    obtain ⟨w, hw, e3, e4⟩ := isn s hs
    rw [e3]
    refine (g.conn (fun v => v < ns.length ∧ S (nmAt ns v)) (fun v ⟨lv, hv⟩ u hu => ?_) v w (by omega) (by omega) ⟨hv, e1 ▸ h1⟩).2
    obtain ⟨r', hr', er'⟩ := row v lv
    have ei : ns.idxOf r'.1 = v := by rw [er']; exact idx_nm nd lv
    refine ⟨by have := g.le _ _ hu; omega, cl r' hr' (er' ▸ hv) _ ((mem r' hr' _).mpr ⟨u, by rw [ei]; exact hu, rfl⟩)⟩
where nd_map : ∀ {l : List Nat} {f : Nat → Str}, l.Nodup → (∀ a ∈ l, ∀ b ∈ l, f a = f b → a = b) → (l.map f).Nodup
  | [], _, _, _ => .nil
  | x :: l, f, nd, inj => by
    have n2 := List.nodup_cons.mp nd
    rw [List.map_cons, List.nodup_cons]
    refine ⟨fun h => ?_, nd_map n2.2 fun a ha b hb => inj a (List.mem_cons_of_mem _ ha) b (List.mem_cons_of_mem _ hb)⟩
    obtain ⟨y, hy, e⟩ := List.mem_map.mp h
    have := inj y (List.mem_cons_of_mem _ hy) x List.mem_cons_self e
    exact n2.1 (this ▸ hy)
end A8
set_option Elab.async false
set_option linter.all false
set_option maxRecDepth 100000
set_option maxHeartbeats 4000000
namespace A8
open PySem PySem.Spec PyProof.Rows L2 AL
/-! ### directions in a tree -/
def Nb (t : List Row) (u w : Str) : Prop := ∃ r ∈ t, r.1 = u ∧ w ∈ r.2.2
/-- the directed edges -/
def edgesD (t : List Row) : List (Str × Str) := t.flatMap fun r => r.2.2.map fun y => (r.1, y)
def edgesP (ps : List (Str × Str)) : List (Str × Str) := ps.flatMap fun q => [(q.1, q.2), (q.2, q.1)]
theorem mem_edgesD {t : List Row} {u w : Str} : (u, w) ∈ edgesD t ↔ Nb t u w := by
  unfold edgesD Nb
  rw [List.mem_flatMap]
  constructor
  · rintro ⟨r, hr, h⟩
    obtain ⟨y, hy, e⟩ := List.mem_map.mp h
    injection e with e1 e2
    exact ⟨r, hr, e1, e2 ▸ hy⟩
  · rintro ⟨r, hr, e, h⟩
    exact ⟨r, hr, List.mem_map.mpr ⟨w, h, by rw [e]⟩⟩
theorem len_edgesD : ∀ t : List Row, (edgesD t).length = (t.map fun r => r.2.2.length).sum
  | [] => rfl
  | r :: t => by
    have := len_edgesD t
    unfold edgesD at this ⊢
    rw [List.flatMap_cons, List.length_append, this, List.length_map]
    rfl
theorem len_edgesP : ∀ ps : List (Str × Str), (edgesP ps).length = 2 * ps.length
  | [] => rfl
  | q :: ps => by
    have := len_edgesP ps
    unfold edgesP at this ⊢
    rw [List.flatMap_cons, List.length_append, this]
    simp only [List.length_cons, List.length_nil]
    omega
theorem mem_edgesP {ps : List (Str × Str)} {u w : Str} : (u, w) ∈ edgesP ps ↔ (u, w) ∈ ps ∨ (w, u) ∈ ps := by
  unfold edgesP
  rw [List.mem_flatMap]
  constructor
  · rintro ⟨q, hq, h⟩
    simp only [List.mem_cons, List.not_mem_nil, or_false] at h
    rcases h with h | h
    · exact .inl (by rw [h]; exact hq)
    · refine .inr ?_
      injection h with e1 e2
      rw [e1, e2]
      exact hq
  · rintro (h | h)
    · exact ⟨_, h, List.mem_cons_self⟩
    · exact ⟨_, h, List.mem_cons_of_mem _ List.mem_cons_self⟩
section
variable {t : List Row} {x : Str} {ps : List (Str × Str)}
/-- the place of a key -/
theorem StepsOk.place (h : StepsOk t x ps) {i j : Nat} {y z z' : Str} (hi : ps[i]? = some (y, z)) (hj : ps[j]? = some (y, z')) : i = j := by
  obtain ⟨li, ei⟩ := List.getElem?_eq_some_iff.mp hi
  obtain ⟨lj, ej⟩ := List.getElem?_eq_some_iff.mp hj
  have l1 : i < (keysS ps).length := by rw [List.length_map]; exact li
  have l2 : j < (keysS ps).length := by rw [List.length_map]; exact lj
  refine (List.getElem_inj (h₀ := l1) (h₁ := l2) h.nodup).mp ?_
  rw [List.getElem_map, List.getElem_map, ei, ej]
theorem StepsOk.fn (h : StepsOk t x ps) {y z z' : Str} (h1 : (y, z) ∈ ps) (h2 : (y, z') ∈ ps) : z = z' := by
  obtain ⟨i, li, ei⟩ := List.mem_iff_getElem.mp h1
  obtain ⟨j, lj, ej⟩ := List.mem_iff_getElem.mp h2
  have e := h.place (i := i) (j := j) (by rw [List.getElem?_eq_getElem li, ei]) (by rw [List.getElem?_eq_getElem lj, ej])
  subst e
  rw [ei] at ej
  injection ej
theorem StepsOk.cons_ (h : StepsOk t x ps) : ∃ rest, ps = (x, x) :: rest := by
  have := h.first
  cases ps with
  | nil => cases this
  | cons q r => exact ⟨r, by rw [Option.some.inj this]⟩
theorem StepsOk.edge (h : StepsOk t x ps) (ok : OkTree t) {y z : Str} (hm : (y, z) ∈ ps) (ne : y ≠ x) : Nb t z y ∧ Nb t y z := by
  obtain ⟨i, li, ei⟩ := List.mem_iff_getElem.mp hm
  have hi : ps[i]? = some (y, z) := by rw [List.getElem?_eq_getElem li, ei]
  have i0 : 0 < i := by
    cases i with
    | zero =>
      rw [h.first] at hi
      injection hi with hi
      injection hi with e1 e2
      exact (ne e1.symm).elim
    | succ i => exact Nat.succ_pos i
  obtain ⟨_, r, hr, er, hy⟩ := h.step i y z i0 hi
  obtain ⟨s, hs, es⟩ := ok.nbs r hr y hy
  exact ⟨⟨r, hr, er, hy⟩, ⟨s, hs, es, er ▸ ok.sym r hr s hs (by rw [es]; exact hy)⟩⟩
/-- every edge goes to the parent or to a child -/
theorem StepsOk.par (h : StepsOk t x ps) (ok : OkTree t) {u w : Str} (hn : Nb t u w) : (u ≠ x ∧ (u, w) ∈ ps) ∨ (w ≠ x ∧ (w, u) ∈ ps) := by
  obtain ⟨rest, rfl⟩ := h.cons_
  have nk := h.nodup
  rw [List.map_cons, List.nodup_cons] at nk
  have rne : ∀ q ∈ rest, q.1 ≠ x := fun q hq e => nk.1 (List.mem_map.mpr ⟨q, hq, e⟩)
  have sub : ∀ e ∈ edgesP rest, e ∈ edgesD t := fun e he => by
    obtain ⟨a, b⟩ := e
    rcases mem_edgesP.mp he with q | q
    · exact mem_edgesD.mpr (h.edge ok (List.mem_cons_of_mem _ q) (rne _ q)).2
    · exact mem_edgesD.mpr (h.edge ok (List.mem_cons_of_mem _ q) (rne _ q)).1
  have order : ∀ {a b c : Str}, (a, b) ∈ rest → (b, a) ∈ rest → False := fun {a b c} h1 h2 => by
    obtain ⟨i, li, ei⟩ := List.mem_iff_getElem.mp h1
    obtain ⟨j, lj, ej⟩ := List.mem_iff_getElem.mp h2
    have hi : ((x, x) :: rest)[i + 1]? = some (a, b) := by rw [List.getElem?_cons_succ, List.getElem?_eq_getElem li, ei]
    have hj : ((x, x) :: rest)[j + 1]? = some (b, a) := by rw [List.getElem?_cons_succ, List.getElem?_eq_getElem lj, ej]
    obtain ⟨⟨k, z, lk, ek⟩, _⟩ := h.step _ _ _ (Nat.succ_pos i) hi
    obtain ⟨⟨k', z', lk', ek'⟩, _⟩ := h.step _ _ _ (Nat.succ_pos j) hj
    have e1 := h.place ek hj
    have e2 := h.place ek' hi
    omega
  have selfN : ∀ {a b : Str}, (a, b) ∈ rest → a ≠ b := fun {a b} h1 e => by
    subst e
    exact order (c := a) h1 h1
  have ndP : (edgesP rest).Nodup := by
    have go : ∀ (l : List (Str × Str)), (∀ q ∈ l, q ∈ rest) → (l.map (·.1)).Nodup → (edgesP l).Nodup := fun l => by
      induction l with
      | nil => intro _ _; exact .nil
      | cons q l ih =>
        intro hl hnd
        rw [List.map_cons, List.nodup_cons] at hnd
        have i1 := ih (fun p hp => hl p (List.mem_cons_of_mem _ hp)) hnd.2
        have qr := hl q List.mem_cons_self
        have sn := selfN (a := q.1) (b := q.2) qr
        have out1 : (q.1, q.2) ∉ edgesP l := fun hm => by
          rcases mem_edgesP.mp hm with z | z
          · exact hnd.1 (List.mem_map.mpr ⟨_, z, rfl⟩)
          · exact order (c := q.1) (show (q.1, q.2) ∈ rest from qr) (hl _ (List.mem_cons_of_mem _ z))
        have out2 : (q.2, q.1) ∉ edgesP l := fun hm => by
          rcases mem_edgesP.mp hm with z | z
          · exact order (c := q.1) (show (q.1, q.2) ∈ rest from qr) (hl _ (List.mem_cons_of_mem _ z))
          · exact hnd.1 (List.mem_map.mpr ⟨_, z, rfl⟩)
        show ((q.1, q.2) :: (q.2, q.1) :: edgesP l).Nodup
        refine List.nodup_cons.mpr ⟨fun hm => ?_, List.nodup_cons.mpr ⟨out2, i1⟩⟩
        rcases List.mem_cons.mp hm with z | z
        · injection z with z1 _
          exact sn z1
        · exact out1 z
    exact go rest (fun q hq => hq) nk.2
  have hl : (edgesD t).length = (edgesP rest).length := by
    have l1 := h.len ok
    rw [List.length_cons] at l1
    have l2 := ok.ends
    rw [len_edgesD, len_edgesP]
    omega
  have all : ∀ e ∈ edgesD t, e ∈ edgesP rest := fun e he => by
    apply Classical.byContradiction
    intro hn
    have l := pigeon (xs := edgesP rest) (ys := (edgesD t).erase e) ndP fun y hy => (List.mem_erase_of_ne fun z => hn (by rw [← z]; exact hy)).mpr (sub y hy)
    rw [List.length_erase_of_mem he] at l
    have := List.length_pos_of_mem he
    omega
  rcases mem_edgesP.mp (all _ (mem_edgesD.mpr hn)) with q | q
  · exact .inl ⟨rne _ q, List.mem_cons_of_mem _ q⟩
  · exact .inr ⟨rne _ q, List.mem_cons_of_mem _ q⟩
where pigeon : ∀ {xs ys : List (Str × Str)}, xs.Nodup → (∀ y ∈ xs, y ∈ ys) → xs.length ≤ ys.length
  | [], _, _, _ => Nat.zero_le _
  | x :: xs, ys, nd, h => by
    have hx := h x List.mem_cons_self
    have nd' := List.nodup_cons.mp nd
    have l := pigeon (xs := xs) (ys := ys.erase x) nd'.2 fun y hy => (List.mem_erase_of_ne fun z => nd'.1 (by rw [← z]; exact hy)).mpr (h y (List.mem_cons_of_mem _ hy))
    rw [List.length_erase_of_mem hx] at l
    have := List.length_pos_of_mem hx
    simp only [List.length_cons]
    omega
/-- below v -/
inductive Below (ps : List (Str × Str)) (v : Str) : Str → Prop
  | child {z : Str} : (z, v) ∈ ps → z ≠ v → Below ps v z
  | step {z w : Str} : (z, w) ∈ ps → z ≠ w → Below ps v w → Below ps v z
/-- reached from b, never over v -/
inductive Away (t : List Row) (v b : Str) : Str → Prop
  | here : b ≠ v → Away t v b b
  | on {z w : Str} : Away t v b z → Nb t z w → w ≠ v → Away t v b w
theorem Below.root (h : StepsOk t x ps) {v z : Str} (b : Below ps v z) : z ≠ x := by
  have hr : (x, x) ∈ ps := List.mem_of_getElem? h.first
  cases b with
  | child h1 ne => exact fun e => ne (by rw [e] at h1; rw [e, ← h.fn h1 hr])
  | step h1 ne _ => exact fun e => ne (by rw [e] at h1; rw [e, ← h.fn h1 hr])
theorem Below.on (h : StepsOk t x ps) (ok : OkTree t) {v z w : Str} (b : Below ps v z) (hn : Nb t z w) (ne : w ≠ v) : Below ps v w := by
  rcases h.par ok hn with ⟨zx, hm⟩ | ⟨wx, hm⟩
  · cases b with
    | child h1 _ => exact (ne (h.fn hm h1)).elim
    | step h1 _ h2 => rw [h.fn hm h1]; exact h2
  · refine .step hm (fun e => ?_) b
    subst e
    obtain ⟨r, hr, er, hw⟩ := hn
    exact ok.self r hr (er ▸ hw)
/-- the neighbour from which the target is reached without v is v's parent -/
theorem StepsOk.dir (h : StepsOk t x ps) (ok : OkTree t) {v b : Str} (hb : Nb t v b) (a : Away t v b x) : (v, b) ∈ ps := by
  rcases h.par ok hb with ⟨_, hm⟩ | ⟨bx, hm⟩
  · exact hm
  · have ne : b ≠ v := fun e => by
      obtain ⟨r, hr, er, hw⟩ := hb
      exact ok.self r hr (by rw [er, ← e]; exact hw)
    have all : ∀ z, Away t v b z → Below ps v z := fun z q => by
      induction q with
      | here _ => exact .child hm ne
      | on _ hn w ih => exact ih.on h ok hn w
    exact ((all x a).root h rfl).elim
end
theorem Away.pre {t : List Row} {v b c x : Str} (hn : Nb t b c) (ne : b ≠ v) (a : Away t v c x) : Away t v b x := by
  induction a with
  | here h => exact .on (.here ne) hn h
  | on _ h w ih => exact .on ih h w
/-- the direction from v to y -/
def Dr (t : List Row) (v y z : Str) : Prop := (v = y ∧ z = v) ∨ (v ≠ y ∧ Nb t v z ∧ Away t v z y)
section
variable {t : List Row} {x : Str} {ps : List (Str × Str)}
theorem StepsOk.away (h : StepsOk t x ps) (ok : OkTree t) {v : Str} {i : Nat} {z : Str} (hi : ps[i]? = some (v, z)) : ∀ (n j : Nat) (w c : Str), j < n → j < i → ps[j]? = some (w, c) → Away t v w x
  | 0, _, _, _, hn, _, _ => absurd hn (Nat.not_lt_zero _)
  | n + 1, j, w, c, hn, hj, hw => by
    have wv : w ≠ v := fun e => by
      have := h.place (i := j) (j := i) (by rw [hw, e]) hi
      omega
    by_cases e : w = x
    · rw [e] at wv ⊢
      exact .here wv
    · have j0 : 0 < j := by
        cases j with
        | zero =>
          rw [h.first] at hw
          injection hw with hw
          injection hw with e1 _
          exact (e e1.symm).elim
        | succ j => exact Nat.succ_pos j
      obtain ⟨⟨k, c', hk, hc⟩, _⟩ := h.step j w c j0 hw
      exact (h.away ok hi n k c c' (by omega) (by omega) hc).pre (h.edge ok (List.mem_of_getElem? hw) e).2 wv
theorem StepsOk.dr (h : StepsOk t x ps) (ok : OkTree t) {v z : Str} (hm : (v, z) ∈ ps) : Dr t v x z := by
  by_cases e : v = x
  · refine .inl ⟨e, ?_⟩
    subst e
    exact h.fn hm (List.mem_of_getElem? h.first)
  · obtain ⟨i, li, ei⟩ := List.mem_iff_getElem.mp hm
    have hi : ps[i]? = some (v, z) := by rw [List.getElem?_eq_getElem li, ei]
    have i0 : 0 < i := by
      cases i with
      | zero =>
        rw [h.first] at hi
        injection hi with hi
        injection hi with e1 _
        exact (e e1.symm).elim
      | succ i => exact Nat.succ_pos i
    obtain ⟨⟨k, c', hk, hc⟩, _⟩ := h.step i v z i0 hi
    exact .inr ⟨e, (h.edge ok hm e).2, h.away ok hi i k z c' hk hk hc⟩
theorem StepsOk.of_dr (h : StepsOk t x ps) (ok : OkTree t) {v z : Str} (d : Dr t v x z) : (v, z) ∈ ps := by
  rcases d with ⟨e, e2⟩ | ⟨_, hn, a⟩
  · rw [e2, e]
    exact List.mem_of_getElem? h.first
  · exact h.dir ok hn a
theorem exists_steps (ok : OkTree t) {r : Row} (hr : r ∈ t) : ∃ ps, StepsOk t r.1 ps := by
  have go : ∀ (k : Nat) (ps : List (Str × Str)), Part t r.1 ps → t.length - ps.length = k → ∃ ps, StepsOk t r.1 ps := fun k => by
    induction k with
    | zero =>
      intro ps P e
      refine ⟨ps, P.done ok hr fun s hs hk y hy => ?_⟩
      apply Classical.byContradiction
      intro hn
      have := (P.add ok hs hk hy hn).len
      rw [List.length_append] at this
      simp only [List.length_singleton] at this
      omega
    | succ k ih =>
      intro ps P e
      by_cases c : ∀ s ∈ t, s.1 ∈ keysS ps → ∀ y ∈ s.2.2, y ∈ keysS ps
      · exact ⟨ps, P.done ok hr c⟩
      · obtain ⟨s, c⟩ := Classical.not_forall.mp c
        obtain ⟨hs, c⟩ := Classical.not_imp.mp c
        obtain ⟨hk, c⟩ := Classical.not_imp.mp c
        obtain ⟨y, c⟩ := Classical.not_forall.mp c
        obtain ⟨hy, hn⟩ := Classical.not_imp.mp c
        refine ih _ (P.add ok hs hk hy hn) ?_
        rw [List.length_append]
        simp only [List.length_singleton]
        omega
  exact go _ _ (Part.start hr) rfl
theorem Dr.unique (ok : OkTree t) {r : Row} (hr : r ∈ t) {v z z' : Str} (d : Dr t v r.1 z) (d' : Dr t v r.1 z') : z = z' := by
  obtain ⟨ps, h⟩ := exists_steps ok hr
  exact h.fn (h.of_dr ok d) (h.of_dr ok d')
end
/-- the direction, as a function -/
noncomputable def dirN (t : List Row) (v y : Str) : Str := @Classical.epsilon Str ⟨v⟩ (Dr t v y)
theorem dirN_eq {t : List Row} (ok : OkTree t) {r : Row} (hr : r ∈ t) {v z : Str} (d : Dr t v r.1 z) : dirN t v r.1 = z :=
  Dr.unique ok hr (@Classical.epsilon_spec_aux Str ⟨v⟩ (Dr t v r.1) ⟨z, d⟩) d
/-! ### views -/
def seen1 (v : Str) (δ : Str → Str) (a b : Str) : List Str := if δ b = v ∨ δ b ≠ δ a then [δ b] else []
def viewF (v : Str) (δ : Str → Str) : List Str → List Str
  | [] => []
  | [_] => []
  | a :: b :: r => seen1 v δ a b ++ viewF v δ (b :: r)
theorem viewF_snoc (v : Str) (δ : Str → Str) : ∀ (l : List Str) (a b : Str), viewF v δ (l ++ [a] ++ [b]) = viewF v δ (l ++ [a]) ++ seen1 v δ a b
  | [], a, b => by
    show seen1 v δ a b ++ [] = [] ++ seen1 v δ a b
    rw [List.append_nil, List.nil_append]
  | [c], a, b => by
    show seen1 v δ c a ++ (seen1 v δ a b ++ []) = (seen1 v δ c a ++ []) ++ seen1 v δ a b
    rw [List.append_nil, List.append_nil]
  | c :: e :: l, a, b => by
    show seen1 v δ c e ++ viewF v δ (e :: l ++ [a] ++ [b]) = (seen1 v δ c e ++ viewF v δ (e :: l ++ [a])) ++ seen1 v δ a b
    rw [viewF_snoc v δ (e :: l) a b, List.append_assoc]
theorem viewF_len (v : Str) (δ : Str → Str) : ∀ l : List Str, (viewF v δ l).length ≤ l.length
  | [] => Nat.le_refl _
  | [_] => Nat.zero_le _
  | a :: b :: r => by
    have h := viewF_len v δ (b :: r)
    show (seen1 v δ a b ++ viewF v δ (b :: r)).length ≤ (b :: r).length + 1
    rw [List.length_append]
    have : (seen1 v δ a b).length ≤ 1 := by
      unfold seen1
      split
      · exact Nat.le_refl _
      · exact Nat.zero_le _
    omega
end A8
set_option Elab.async false
set_option linter.all false
set_option maxRecDepth 100000
set_option maxHeartbeats 4000000
namespace A8
open PySem PySem.Spec PyProof.Rows L2 AL
/-! ### walks that never turn back at once -/
structure Wk (t : List Row) (v : Str) (p : List Str) : Prop where
  h0 : p[0]? = some v
  nb : ∀ i a b, p[i]? = some a → p[i + 1]? = some b → Nb t a b
  nr : ∀ i a b, p[i]? = some a → p[i + 2]? = some b → a ≠ b
section
variable {t : List Row} {v x : Str} {ps : List (Str × Str)}
theorem at_lt {α : Type} {l : List α} {i : Nat} {a : α} (h : l[i]? = some a) : i < l.length := (List.getElem?_eq_some_iff.mp h).1
theorem Wk.ne {p : List Str} (h : Wk t v p) : p ≠ [] := fun z => by
  have := h.h0
  rw [z] at this
  cases this
theorem Wk.one : Wk t v [v] where
  h0 := rfl
  nb := fun i a b _ h => by
    have := at_lt h
    simp only [List.length_singleton] at this
    omega
  nr := fun i a b _ h => by
    have := at_lt h
    simp only [List.length_singleton] at this
    omega
theorem Wk.pre {p : List Str} {w : Str} (h : Wk t v (p ++ [w])) (ne : p ≠ []) : Wk t v p := by
  have up : ∀ {i : Nat} {a : Str}, p[i]? = some a → (p ++ [w])[i]? = some a := fun {i a} e => by rw [List.getElem?_append_left (at_lt e)]; exact e
  refine ⟨?_, fun i a b h1 h2 => h.nb i a b (up h1) (up h2), fun i a b h1 h2 => h.nr i a b (up h1) (up h2)⟩
  have := h.h0
  rw [List.getElem?_append_left (List.length_pos_iff.mpr ne)] at this
  exact this
theorem Wk.snoc {p : List Str} {u w : Str} (h : Wk t v (p ++ [u])) (hn : Nb t u w) (nr : ∀ b, p.getLast? = some b → b ≠ w) : Wk t v (p ++ [u] ++ [w]) := by
  have l1 : (p ++ [u]).length = p.length + 1 := by rw [List.length_append]; rfl
  have atU : (p ++ [u] ++ [w])[p.length]? = some u := by
    rw [List.getElem?_append_left (by rw [l1]; omega), List.getElem?_append_right (Nat.le_refl _), Nat.sub_self]
    rfl
  have atW : (p ++ [u] ++ [w])[p.length + 1]? = some w := by
    rw [List.getElem?_append_right (by rw [l1]; exact Nat.le_refl _), l1, Nat.sub_self]
    rfl
  have down : ∀ {i : Nat} {a : Str}, i < p.length + 1 → (p ++ [u] ++ [w])[i]? = some a → (p ++ [u])[i]? = some a := fun {i a} hi e => by
    rw [List.getElem?_append_left (by rw [l1]; exact hi)] at e
    exact e
  refine ⟨?_, fun i a b h1 h2 => ?_, fun i a b h1 h2 => ?_⟩
  · rw [List.getElem?_append_left (by rw [l1]; omega)]
    exact h.h0
  · have l := at_lt h2
    rw [List.length_append, l1] at l
    simp only [List.length_singleton] at l
    by_cases q : i + 1 < p.length + 1
    · exact h.nb i a b (down (by omega) h1) (down q h2)
    · have e : i = p.length := by omega
      rw [e, atU] at h1
      rw [e, atW] at h2
      rw [← Option.some.inj h1, ← Option.some.inj h2]
      exact hn
  · have l := at_lt h2
    rw [List.length_append, l1] at l
    simp only [List.length_singleton] at l
    by_cases q : i + 2 < p.length + 1
    · exact h.nr i a b (down (by omega) h1) (down q h2)
    · have e : i + 2 = p.length + 1 := by omega
      rw [e, atW] at h2
      rw [← Option.some.inj h2]
      refine nr a ?_
      have h3 := down (by omega) h1
      rw [List.getElem?_append_left (by omega)] at h3
      rw [List.getLast?_eq_getElem?, show p.length - 1 = i by omega]
      exact h3
/-- every step of it goes to a child -/
theorem Wk.par {p : List Str} (W : Wk t v p) (h : StepsOk t v ps) (ok : OkTree t) : ∀ i a b, p[i]? = some a → p[i + 1]? = some b → (b, a) ∈ ps ∧ b ≠ v
  | 0, a, b, h1, h2 => by
    have hn := W.nb 0 a b h1 h2
    rw [W.h0] at h1
    rw [← Option.some.inj h1] at hn ⊢
    rcases h.par ok hn with ⟨z, _⟩ | ⟨z, hm⟩
    · exact (z rfl).elim
    · exact ⟨hm, z⟩
  | i + 1, a, b, h1, h2 => by
    have hi : i < p.length := by have := at_lt h1; omega
    have h0 : p[i]? = some p[i] := List.getElem?_eq_getElem hi
    obtain ⟨q1, q2⟩ := W.par h ok i p[i] a h0 h1
    rcases h.par ok (W.nb (i + 1) a b h1 h2) with ⟨_, hm⟩ | ⟨z, hm⟩
    · exact (W.nr i p[i] b h0 h2 (h.fn q1 hm)).elim
    · exact ⟨hm, z⟩
theorem snoc_of {l : List Str} (h : l ≠ []) : ∃ p w, l = p ++ [w] := ⟨l.dropLast, l.getLast h, (List.dropLast_concat_getLast h).symm⟩
theorem last_snoc {p : List Str} {w : Str} : (p ++ [w]).getLast? = some w := by simp
/-- one walk to each node -/
theorem Wk.unique (h : StepsOk t v ps) (ok : OkTree t) : ∀ (n : Nat) (p q : List Str), p.length ≤ n → Wk t v p → Wk t v q → p.getLast? = q.getLast? → p = q
  | 0, p, q, hn, W, _, _ => (W.ne (List.eq_nil_of_length_eq_zero (by omega))).elim
  | n + 1, p, q, hn, W, W', e => by
    obtain ⟨p1, w, rfl⟩ := snoc_of W.ne
    obtain ⟨q1, w', rfl⟩ := snoc_of W'.ne
    rw [last_snoc, last_snoc] at e
    have ew := Option.some.inj e
    subst ew
    have step : ∀ {l : List Str} {a : Str}, Wk t v (l ++ [a] ++ [w]) → (w, a) ∈ ps ∧ w ≠ v := fun {l a} X => by
      refine X.par h ok l.length a w ?_ ?_
      · rw [List.getElem?_append_left (by rw [List.length_append]; simp), List.getElem?_append_right (Nat.le_refl _), Nat.sub_self]
        rfl
      · rw [List.getElem?_append_right (by rw [List.length_append]; exact Nat.le_refl _), List.length_append]
        simp
    have solo : ∀ {l : List Str}, Wk t v (l ++ [w]) → l = [] → w = v := fun {l} X z => by
      have := X.h0
      rw [z] at this
      exact Option.some.inj this
    by_cases z1 : p1 = []
    · by_cases z2 : q1 = []
      · rw [z1, z2]
      · obtain ⟨l, a, rfl⟩ := snoc_of z2
        exact ((step W').2 (solo W z1)).elim
    · by_cases z2 : q1 = []
      · obtain ⟨l, a, rfl⟩ := snoc_of z1
        exact ((step W).2 (solo W' z2)).elim
      · have Wp := W.pre z1
        have Wq := W'.pre z2
        obtain ⟨l, a, rfl⟩ := snoc_of z1
        obtain ⟨l', a', rfl⟩ := snoc_of z2
        have ea : a = a' := h.fn (step W).1 (step W').1
        subst ea
        have hl : (l ++ [a]).length ≤ n := by
          rw [List.length_append] at hn
          simp only [List.length_singleton] at hn
          omega
        rw [Wk.unique h ok n (l ++ [a]) (l' ++ [a]) hl Wp Wq (by rw [last_snoc, last_snoc])]
/-- along the parents -/
def Ch (ps : List (Str × Str)) (p : List Str) : Prop := ∀ i a b, p[i]? = some a → p[i + 1]? = some b → (a, b) ∈ ps ∧ a ≠ b
theorem StepsOk.lower (h : StepsOk t x ps) {y z : Str} {i : Nat} (hi : ps[i]? = some (y, z)) (ne : y ≠ x) : ∃ j z', j < i ∧ ps[j]? = some (z, z') := by
  have i0 : 0 < i := by
    cases i with
    | zero =>
      rw [h.first] at hi
      injection hi with hi
      injection hi with e1 _
      exact (ne e1.symm).elim
    | succ i => exact Nat.succ_pos i
  exact (h.step i y z i0 hi).1
theorem StepsOk.self (h : StepsOk t x ps) {y z : Str} (hm : (y, z) ∈ ps) (ne : y ≠ z) : y ≠ x := fun e => by
  rw [e] at hm ne
  exact ne (h.fn (List.mem_of_getElem? h.first) hm)
theorem Ch.wk (h : StepsOk t x ps) (ok : OkTree t) {p : List Str} (c : Ch ps p) (h0 : p[0]? = some v) : Wk t v p := by
  refine ⟨h0, fun i a b h1 h2 => ?_, fun i a c' h1 h3 e => ?_⟩
  · obtain ⟨hm, ne⟩ := c i a b h1 h2
    exact (h.edge ok hm (h.self hm ne)).2
  · subst e
    have l : i + 1 < p.length := by have := at_lt h3; omega
    have h2 : p[i + 1]? = some p[i + 1] := List.getElem?_eq_getElem l
    obtain ⟨m1, n1⟩ := c i a p[i + 1] h1 h2
    obtain ⟨m2, n2⟩ := c (i + 1) p[i + 1] a h2 h3
    obtain ⟨k, lk, ek⟩ := List.mem_iff_getElem.mp m1
    obtain ⟨k', lk', ek'⟩ := List.mem_iff_getElem.mp m2
    have q1 : ps[k]? = some (a, p[i + 1]) := by rw [List.getElem?_eq_getElem lk, ek]
    have q2 : ps[k']? = some (p[i + 1], a) := by rw [List.getElem?_eq_getElem lk', ek']
    obtain ⟨j, z, lj, ej⟩ := h.lower q1 (h.self m1 n1)
    obtain ⟨j', z', lj', ej'⟩ := h.lower q2 (h.self m2 n2)
    have e1 := h.place ej q2
    have e2 := h.place ej' q1
    omega
theorem exists_path (h : StepsOk t x ps) (ok : OkTree t) : ∀ (n i : Nat) (v z : Str), i < n → ps[i]? = some (v, z) → ∃ p, Ch ps p ∧ p[0]? = some v ∧ p.getLast? = some x
  | 0, _, _, _, hn, _ => absurd hn (Nat.not_lt_zero _)
  | n + 1, i, v, z, hn, hi => by
    by_cases e : v = x
    · rw [e]
      refine ⟨[x], fun i a b _ h2 => ?_, rfl, rfl⟩
      have := at_lt h2
      simp only [List.length_singleton] at this
      omega
    · obtain ⟨j, z', lj, ej⟩ := h.lower hi e
      obtain ⟨p, c, p0, pl⟩ := exists_path h ok n j z z' (by omega) ej
      have hm : (v, z) ∈ ps := List.mem_of_getElem? hi
      have ne : v ≠ z := fun q => by
        subst q
        obtain ⟨r, hr, er, hw⟩ := (h.edge ok hm e).2
        exact ok.self r hr (er ▸ hw)
      refine ⟨v :: p, fun i a b h1 h2 => ?_, rfl, ?_⟩
      · cases i with
        | zero =>
          rw [List.getElem?_cons_succ, p0] at h2
          rw [List.getElem?_cons_zero] at h1
          rw [← Option.some.inj h1, ← Option.some.inj h2]
          exact ⟨hm, ne⟩
        | succ i =>
          rw [List.getElem?_cons_succ] at h1 h2
          exact c i a b h1 h2
      · cases p with
        | nil => cases p0
        | cons q r => exact pl
/-- the second of the path and the path again -/
theorem Ch.second (h : StepsOk t x ps) {p : List Str} (c : Ch ps p) (h0 : p[0]? = some v) (hl : p.getLast? = some x) {z : Str} (hm : (v, z) ∈ ps) : (p ++ p)[1]? = some z := by
  match p, c, h0, hl with
  | [a], c, h0, hl =>
    have e1 : a = v := Option.some.inj h0
    have e2 : a = x := Option.some.inj hl
    have : z = x := h.fn hm (by rw [← e1, e2]; exact List.mem_of_getElem? h.first)
    show some a = some z
    rw [e2, this]
  | a :: b :: r, c, h0, hl =>
    have e1 : a = v := Option.some.inj h0
    obtain ⟨m, _⟩ := c 0 a b rfl rfl
    have e2 : b = z := h.fn (show (v, b) ∈ ps by rw [← e1]; exact m) hm
    show some b = some z
    rw [e2]
end
end A8
set_option Elab.async false
set_option linter.all false
set_option maxRecDepth 100000
set_option maxHeartbeats 4000000
namespace A8
open PySem PySem.Spec PyProof.Rows L2 AL
/-! ### all walks from v, until one ends at x -/
def bh (p : List Str) : List Str := p.dropLast.getLast?.toList
theorem bh_snoc (p : List Str) (u : Str) : bh (p ++ [u]) = p.getLast?.toList := by
  unfold bh
  rw [List.dropLast_concat]
structure Dfs (t : List Row) (v x : Str) (D S : List (List Str)) : Prop where
  wk : ∀ p ∈ D ++ S, Wk t v p
  nd : (D ++ S).Nodup
  root : [v] ∈ D ++ S
  par : ∀ p ∈ D ++ S, p = [v] ∨ p.dropLast ∈ D
  nx : ∀ p ∈ D, p.getLast? ≠ some x
  cl : ∀ p ∈ D, ∀ u w, p.getLast? = some u → Nb t u w → w ∉ bh p → p ++ [w] ∈ D ++ S
def outs (p row : List Str) : List (List Str) := (row.filter fun w => decide (w ∉ bh p)).map fun w => p ++ [w]
theorem outs_snoc (p row : List Str) (w : Str) : outs p (row ++ [w]) = outs p row ++ if w ∈ bh p then [] else [p ++ [w]] := by
  unfold outs
  rw [List.filter_append, List.map_append]
  by_cases h : w ∈ bh p
  · rw [if_pos h]
    simp [h]
  · rw [if_neg h]
    simp [h]
section
variable {t : List Row} {v x : Str} {ps : List (Str × Str)} {D S : List (List Str)}
theorem Dfs.start : Dfs t v x [] [[v]] where
  wk := fun p hp => by
    rw [List.nil_append, List.mem_singleton] at hp
    rw [hp]
    exact Wk.one
  nd := by simp
  root := List.mem_singleton.mpr rfl
  par := fun p hp => .inl (List.mem_singleton.mp hp)
  nx := fun p hp => absurd hp List.not_mem_nil
  cl := fun p hp => absurd hp List.not_mem_nil
theorem Dfs.step {S0 : List (List Str)} {p1 : List Str} {r : Row} (d : Dfs t v x D (S0 ++ [p1 ++ [r.1]])) (ok : OkTree t) (hr : r ∈ t) (ne : r.1 ≠ x) : Dfs t v x (D ++ [p1 ++ [r.1]]) (S0 ++ outs (p1 ++ [r.1]) r.2.2) := by
  have lastP : (p1 ++ [r.1]).getLast? = some r.1 := last_snoc
  have nd1 := List.nodup_append.mp d.nd
  have nd2 := List.nodup_append.mp nd1.2.1
  have pS : p1 ++ [r.1] ∈ S0 ++ [p1 ++ [r.1]] := List.mem_append_right _ List.mem_cons_self
  have pD : p1 ++ [r.1] ∉ D := fun z => nd1.2.2 _ z _ pS rfl
  have pS0 : p1 ++ [r.1] ∉ S0 := fun z => nd2.2.2 _ z _ List.mem_cons_self rfl
  have old : ∀ q, q ∈ D ++ (S0 ++ [p1 ++ [r.1]]) → q ∈ (D ++ [p1 ++ [r.1]]) ++ (S0 ++ outs (p1 ++ [r.1]) r.2.2) := fun q hq => by
    rcases List.mem_append.mp hq with z | z
    · exact List.mem_append_left _ (List.mem_append_left _ z)
    · rcases List.mem_append.mp z with z | z
      · exact List.mem_append_right _ (List.mem_append_left _ z)
      · exact List.mem_append_left _ (List.mem_append_right _ z)
  have back : ∀ q, q ∈ (D ++ [p1 ++ [r.1]]) ++ (S0 ++ outs (p1 ++ [r.1]) r.2.2) → q ∈ D ++ (S0 ++ [p1 ++ [r.1]]) ∨ q ∈ outs (p1 ++ [r.1]) r.2.2 := fun q hq => by
    rcases List.mem_append.mp hq with z | z
    · rcases List.mem_append.mp z with z | z
      · exact .inl (List.mem_append_left _ z)
      · exact .inl (List.mem_append_right _ (List.mem_append_right _ z))
    · rcases List.mem_append.mp z with z | z
      · exact .inl (List.mem_append_right _ (List.mem_append_left _ z))
      · exact .inr z
  have isNew : ∀ q, q ∈ outs (p1 ++ [r.1]) r.2.2 ↔ ∃ w, w ∈ r.2.2 ∧ w ∉ bh (p1 ++ [r.1]) ∧ q = p1 ++ [r.1] ++ [w] := fun q => by
    unfold outs
    rw [List.mem_map]
    constructor
    · rintro ⟨w, hw, e⟩
      obtain ⟨h1, h2⟩ := List.mem_filter.mp hw
      exact ⟨w, h1, of_decide_eq_true h2, e.symm⟩
    · rintro ⟨w, h1, h2, e⟩
      exact ⟨w, List.mem_filter.mpr ⟨h1, decide_eq_true h2⟩, e.symm⟩
  have newOut : ∀ q, q ∈ outs (p1 ++ [r.1]) r.2.2 → q ∉ D ++ (S0 ++ [p1 ++ [r.1]]) := fun q hq z => by
    obtain ⟨w, _, _, rfl⟩ := (isNew q).mp hq
    rcases d.par _ z with e | e
    · have := congrArg List.length e
      simp only [List.length_append, List.length_cons, List.length_nil] at this
      omega
    · rw [List.dropLast_concat] at e
      exact pD e
  have Wp := d.wk _ (List.mem_append_right _ pS)
  refine ⟨fun q hq => ?_, ?_, old _ d.root, fun q hq => ?_, fun q hq => ?_, fun q hq u w hu hn hw => ?_⟩
  · rcases back q hq with z | z
    · exact d.wk q z
    · obtain ⟨w, h1, h2, rfl⟩ := (isNew q).mp z
      refine Wp.snoc ⟨r, hr, rfl, h1⟩ fun b hb e => h2 ?_
      rw [bh_snoc, hb, e]
      exact List.mem_singleton.mpr rfl
  · refine List.nodup_append.mpr ⟨List.nodup_append.mpr ⟨nd1.1, by simp, fun a ha b hb e => pD (by rw [← List.mem_singleton.mp hb, ← e]; exact ha)⟩, List.nodup_append.mpr ⟨nd2.1, ?_, fun a ha b hb e => ?_⟩, fun a ha b hb e => ?_⟩
    · unfold outs
      have go : ∀ l : List Str, l.Nodup → (l.map fun w => p1 ++ [r.1] ++ [w]).Nodup := fun l => by
        induction l with
        | nil => intro _; exact .nil
        | cons a l ih =>
          intro h
          have h2 := List.nodup_cons.mp h
          rw [List.map_cons, List.nodup_cons]
          refine ⟨fun z => ?_, ih h2.2⟩
          obtain ⟨b, hb, e⟩ := List.mem_map.mp z
          have e2 := List.append_cancel_left e
          injection e2 with e2
          exact h2.1 (e2 ▸ hb)
      exact go _ ((ok.asc r hr).2.sublist (List.filter_sublist))
    · exact newOut b hb (by rw [← e]; exact List.mem_append_right _ (List.mem_append_left _ ha))
    · subst e
      rcases List.mem_append.mp hb with z | z
      · rcases List.mem_append.mp ha with y | y
        · exact nd1.2.2 a y a (List.mem_append_left _ z) rfl
        · rw [List.mem_singleton.mp y] at z
          exact pS0 z
      · refine newOut a z ?_
        rcases List.mem_append.mp ha with y | y
        · exact List.mem_append_left _ y
        · exact List.mem_append_right _ (List.mem_append_right _ y)
  · rcases back q hq with z | z
    · rcases d.par q z with e | e
      · exact .inl e
      · exact .inr (List.mem_append_left _ e)
    · obtain ⟨w, _, _, rfl⟩ := (isNew q).mp z
      rw [List.dropLast_concat]
      exact .inr (List.mem_append_right _ List.mem_cons_self)
  · rcases List.mem_append.mp hq with z | z
    · exact d.nx q z
    · rw [List.mem_singleton.mp z, lastP]
      exact fun e => ne (Option.some.inj e)
  · rcases List.mem_append.mp hq with z | z
    · exact old _ (d.cl q z u w hu hn hw)
    · rw [List.mem_singleton.mp z] at hu hw ⊢
      rw [lastP] at hu
      have eu := Option.some.inj hu
      subst eu
      obtain ⟨r', hr', er, hm⟩ := hn
      rw [ok.one hr' hr er] at hm
      exact List.mem_append_right _ (List.mem_append_right _ ((isNew _).mpr ⟨w, hm, hw, rfl⟩))
theorem Dfs.all (d : Dfs t v x D []) : ∀ (n : Nat) (p : List Str), p.length ≤ n → Wk t v p → p ∈ D
  | 0, p, hn, W => (W.ne (List.eq_nil_of_length_eq_zero (by omega))).elim
  | n + 1, p, hn, W => by
    have out : ∀ q, q ∈ D ++ [] → q ∈ D := fun q hq => by rw [List.append_nil] at hq; exact hq
    obtain ⟨q, w, rfl⟩ := snoc_of W.ne
    by_cases z : q = []
    · have := W.h0
      rw [z] at this ⊢
      rw [Option.some.inj this]
      exact out _ d.root
    · have Wq := W.pre z
      obtain ⟨q', u, rfl⟩ := snoc_of z
      have hl : (q' ++ [u]).length ≤ n := by
        rw [List.length_append] at hn
        simp only [List.length_singleton] at hn
        omega
      have atU : (q' ++ [u] ++ [w])[q'.length]? = some u := by
        rw [List.getElem?_append_left (by rw [List.length_append]; simp), List.getElem?_append_right (Nat.le_refl _), Nat.sub_self]
        rfl
      have atW : (q' ++ [u] ++ [w])[q'.length + 1]? = some w := by
        rw [List.getElem?_append_right (by rw [List.length_append]; exact Nat.le_refl _), List.length_append]
        simp
      refine out _ (d.cl _ (d.all n _ hl Wq) u w last_snoc (W.nb _ _ _ atU atW) fun hw => ?_)
      rw [bh_snoc] at hw
      cases hb : q'.getLast? with
      | none => rw [hb] at hw; exact absurd hw List.not_mem_nil
      | some b =>
        rw [hb] at hw
        have ew : w = b := List.mem_singleton.mp hw
        have q0 : q' ≠ [] := fun y => by rw [y] at hb; cases hb
        have lq := List.length_pos_iff.mpr q0
        rw [List.getLast?_eq_getElem?] at hb
        refine W.nr (q'.length - 1) b w ?_ (by rw [show q'.length - 1 + 2 = q'.length + 1 by omega]; exact atW) ew.symm
        rw [List.getElem?_append_left (by rw [List.length_append]; simp only [List.length_singleton]; omega), List.getElem?_append_left (by omega)]
        exact hb
theorem Dfs.notDone (d : Dfs t v x D []) {p : List Str} (W : Wk t v p) (hl : p.getLast? = some x) : False := d.nx p (d.all _ p (Nat.le_refl _) W) hl
theorem Wk.lastIn {p : List Str} (W : Wk t v p) (ok : OkTree t) (hv : ∃ r ∈ t, r.1 = v) {u : Str} (hu : p.getLast? = some u) : ∃ r ∈ t, r.1 = u := by
  obtain ⟨q, w, rfl⟩ := snoc_of W.ne
  rw [last_snoc] at hu
  have e := Option.some.inj hu
  subst e
  by_cases z : q = []
  · have := W.h0
    rw [z] at this
    have e2 : w = v := Option.some.inj this
    rw [e2]
    exact hv
  · obtain ⟨q', b, rfl⟩ := snoc_of z
    have atU : (q' ++ [b] ++ [w])[q'.length]? = some b := by
      rw [List.getElem?_append_left (by rw [List.length_append]; simp), List.getElem?_append_right (Nat.le_refl _), Nat.sub_self]
      rfl
    have atW : (q' ++ [b] ++ [w])[q'.length + 1]? = some w := by
      rw [List.getElem?_append_right (by rw [List.length_append]; exact Nat.le_refl _), List.length_append]
      simp
    obtain ⟨r, hr, er, hm⟩ := W.nb _ _ _ atU atW
    exact ok.nbs r hr w hm
theorem Dfs.bound (d : Dfs t v x D S) (h : StepsOk t v ps) (ok : OkTree t) (hv : ∃ r ∈ t, r.1 = v) : D.length + S.length ≤ t.length := by
  have go : ∀ l : List (List Str), l.Nodup → (∀ p ∈ l, Wk t v p) → (l.map fun p => p.getLast?.getD Str.empty).Nodup := fun l => by
    induction l with
    | nil => intro _ _; exact .nil
    | cons p l ih =>
      intro nd W
      have n2 := List.nodup_cons.mp nd
      rw [List.map_cons, List.nodup_cons]
      refine ⟨fun z => ?_, ih n2.2 fun q hq => W q (List.mem_cons_of_mem _ hq)⟩
      obtain ⟨q, hq, e⟩ := List.mem_map.mp z
      have W1 := W p List.mem_cons_self
      have W2 := W q (List.mem_cons_of_mem _ hq)
      obtain ⟨p1, a, rfl⟩ := snoc_of W1.ne
      obtain ⟨q1, b, rfl⟩ := snoc_of W2.ne
      rw [last_snoc, last_snoc] at e
      have e2 : b = a := e
      subst e2
      have := Wk.unique h ok _ _ _ (Nat.le_refl _) W1 W2 (by rw [last_snoc, last_snoc])
      rw [this] at n2
      exact n2.1 hq
  have l := OkTree.deg.nodup_sub (ys := t.map (·.1)) (go _ d.nd d.wk) fun y hy => by
    obtain ⟨p, hp, e⟩ := List.mem_map.mp hy
    have W := d.wk p hp
    obtain ⟨p1, a, rfl⟩ := snoc_of W.ne
    rw [last_snoc] at e
    have e2 : a = y := e
    obtain ⟨r, hr, er⟩ := W.lastIn ok hv last_snoc
    exact List.mem_map.mpr ⟨r, hr, er.trans e2⟩
  rw [List.length_map, List.length_map, List.length_append] at l
  exact l
theorem Wk.idx {p : List Str} (W : Wk t v p) (h : StepsOk t v ps) (ok : OkTree t) : ∀ (i : Nat) (a : Str), p[i]? = some a → ∃ (k : Nat) (z : Str), i ≤ k ∧ ps[k]? = some (a, z)
  | 0, a, ha => by
    rw [W.h0] at ha
    exact ⟨0, v, Nat.le_refl _, by rw [← Option.some.inj ha]; exact h.first⟩
  | i + 1, b, hb => by
    have hi : i < p.length := by have := at_lt hb; omega
    have ha : p[i]? = some p[i] := List.getElem?_eq_getElem hi
    obtain ⟨k, z, hk, ek⟩ := W.idx h ok i p[i] ha
    obtain ⟨hm, ne⟩ := W.par h ok i p[i] b ha hb
    obtain ⟨j, lj, ej⟩ := List.mem_iff_getElem.mp hm
    have hj : ps[j]? = some (b, p[i]) := by rw [List.getElem?_eq_getElem lj, ej]
    obtain ⟨j', z', lj', ej'⟩ := h.lower hj ne
    have := h.place ej' ek
    exact ⟨j, _, by omega, hj⟩
theorem Wk.len {p : List Str} (W : Wk t v p) (h : StepsOk t v ps) (ok : OkTree t) : p.length ≤ t.length := by
  have l0 := List.length_pos_iff.mpr W.ne
  have hl : p[p.length - 1]? = some (p[p.length - 1]'(by omega)) := List.getElem?_eq_getElem (by omega)
  obtain ⟨k, z, hk, ek⟩ := W.idx h ok _ _ hl
  have := at_lt ek
  have := (show Part t v ps from ⟨h.first, h.nodup, h.step, h.nodes⟩).len
  omega
end
end A8
set_option Elab.async false
set_option linter.all false
set_option maxRecDepth 100000
set_option maxHeartbeats 4000000
namespace A8
open PySem PySem.Spec PyProof.Rows L2 AL
open GxR (TabB TabG Tabbed)
/-! ### the law's numbers -/
abbrev sSrc : Stmt := top 21
theorem scSrc : FnScope ["script", "k", "cell"] ["script", "k"] (defScope sSrc) := ⟨rfl, rfl, rfl, by decide +kernel, rfl, by decide +kernel, by decide +kernel⟩
def spSrc (K : PySem.W.Frag) : Sp := fun vs H Q _ => ∃ (a : Addr) (ns : List Int) (k : Nat), vs = [.ref a, .int k] ∧ SqL K H a (ns.map V.int) ∧ k < 100 ∧
  ∀ p x y, H p = none → 0 ≤ x → 0 ≤ y → y < 2 ^ 160 → Q (.ref p) (upd H p (.lst [.int x, .int y, .int 0]))
abbrev sPick : Stmt := top 22
theorem scPick : FnScope ["source", "size", "found", "mixed"] ["source", "size"] (defScope sPick) := ⟨rfl, rfl, rfl, by decide +kernel, rfl, by decide +kernel, by decide +kernel⟩
def PotAt (H : Hp) (p : Addr) (n : Nat) : Prop := ∃ x y z : Int, H p = some (.lst [.int x, .int y, .int z]) ∧ 0 ≤ x ∧ 0 ≤ y ∧ y < 2 ^ 160 ∧ 0 ≤ z ∧ z ≤ n
def spPick : Sp := fun vs H Q _ => ∃ (p : Addr) (m : Int) (n : Nat), vs = [.ref p, .int m] ∧ PotAt H p n ∧ n < 2 ^ 40 ∧ 0 < m ∧ m < 2 ^ 62 ∧
  ∀ H' i, PotAt H' p (n + 1) → (∀ b, b ≠ p → H' b = H b) → 0 ≤ i → i < m → Q (.int i) H'
section
variable {P : Program} {w : World} {K : PySem.W.Frag} {mg : Str → Option Value} {base : Heap} {f c p1 : Addr} {fd : FuncData} {Ps : List Addr}
theorem ok_src (F : FunD K "_law_source" "_law_source" (defArgs sSrc) (defBody sSrc) (defScope sSrc) [] [] f fd) (gL : mg "len" = none) (gM : mg "max" = none) : FnOk P w K mg base CX0 1 f fd ["script", "k"] (spSrc K) := by
  refine F.ok scSrc (fun vs H Q E h => ?_) ?_
  · obtain ⟨a, ns, k, rfl, _⟩ := h
    rfl
  intro cdv A outer s H vs Q E hr h
  refine ⟨_, PSs.nox (pss_cons (ps_set (i := 2) scSrc.nd rfl (Or.inl rfl) pe_int)
    (pss_cons (ps_if (pt_cmpR op_lt (pv 1) (pe_callB call_len_seq rfl gL boot_len (pa_cons (pv 0) pa_nil)) (nomark _)) (pss_one (ps_set (i := 2) scSrc.nd rfl (Or.inl rfl) (pe_ix ix_list (pv 0) (pv 1) (fun _ _ => rfl)))) pss_nil)
    (pss_one (ps_ret (pe_lst (pa_cons (pe_callB (call_max2 rfl) rfl gM (by decide +kernel) (pa_cons pe_int (pa_cons (pe_op op_sub (pv 2) (pe_op op_pow pe_int pe_int)) pa_nil)))
      (pa_cons (pe_op op_add (pe_op op_add (pe_op op_mul (pe_op op_mod (pv 2) (pe_op op_add (pe_op op_pow pe_int pe_int) pe_int)) pe_int) (pe_op op_mul pe_int (pv 1))) pe_int) (pa_cons pe_int pa_nil)))))))), ?_⟩
  obtain ⟨a, ns, k, rfl, hS, hk, hQ⟩ := h
  have hM : (10 : Int) ^ (44 : Int).toNat + 9 = 100000000000000000000000000000000000000000009 := by decide
  refine ⟨_, rfl, _, rfl, a, _, rfl, .inl hS, _, _, rfl, rfl, _, rfl, ite2 (fun hlt => ?_) (fun _ => ?_)⟩
  · have hlt' : k < ns.length := by
      have := of_decide_eq_true hlt
      rw [List.length_map] at this
      omega
    have hv : (ns.map V.int)[k]? = some (.int ns[k]) := by
      rw [List.getElem?_map, List.getElem?_eq_getElem hlt']
      rfl
    refine ⟨_, rfl, _, rfl, a, _, _, _, rfl, rfl, hS, atI_nat hv, ?_⟩
    refine ⟨_, rfl, _, _, rfl, rfl, ⟨by decide, by decide, by decide⟩, _, _, rfl, rfl, _, _, rfl, ?_⟩
    refine ⟨_, rfl, _, _, rfl, rfl, ⟨by decide, by decide, by decide⟩, _, _, rfl, rfl, _, _, rfl, rfl, by show (0 : Int) < _ ; rw [hM]; decide, ?_⟩
    refine ⟨_, _, rfl, rfl, .inr ⟨by decide, by decide⟩, _, rfl, _, _, rfl, rfl, .inl ⟨by decide, by decide⟩, _, _, rfl, rfl, _, _, rfl, rfl, by show 3 ≤ sizeLine; decide, fun p hp => ?_⟩
    refine hQ p _ _ hp ?_ ?_ ?_
    · split <;> omega
    · rw [hM]; omega
    · rw [hM]; omega
  · refine ⟨_, rfl, _, _, rfl, rfl, ⟨by decide, by decide, by decide⟩, _, _, rfl, rfl, _, _, rfl, ?_⟩
    refine ⟨_, rfl, _, _, rfl, rfl, ⟨by decide, by decide, by decide⟩, _, _, rfl, rfl, _, _, rfl, rfl, by show (0 : Int) < _ ; rw [hM]; decide, ?_⟩
    refine ⟨_, _, rfl, rfl, .inr ⟨by decide, by decide⟩, _, rfl, _, _, rfl, rfl, .inl ⟨by decide, by decide⟩, _, _, rfl, rfl, _, _, rfl, rfl, by show 3 ≤ sizeLine; decide, fun p hp => ?_⟩
    refine hQ p _ _ hp ?_ ?_ ?_
    · split <;> omega
    · rw [hM]; omega
    · rw [hM]; omega
theorem ok_pick (F : FunD K "_law_pick" "_law_pick" (defArgs sPick) (defBody sPick) (defScope sPick) [] [] f fd) : FnOk P w K mg base CX0 1 f fd ["source", "size"] spPick := by
  refine F.ok scPick (fun vs H Q E h => ?_) ?_
  · obtain ⟨a, ns, k, rfl, _⟩ := h
    rfl
  intro cdv A outer s H vs Q E hr h
  refine ⟨_, PSs.nox (pss_cons (ps_if (pt_cmpR op_gt (pe_ix ix_list (pv 0) pe_int (fun _ _ => rfl)) pe_int (nomark _))
      (pss_cons (ps_set (i := 2) scPick.nd rfl (Or.inl rfl) (pe_op op_mod (pe_ix ix_list (pv 0) pe_int (fun _ _ => rfl)) (pv 1)))
      (pss_cons (ps_asg (pe_op op_fdivW (pe_ix ix_list (pv 0) pe_int (fun _ _ => rfl)) (pv 1)) (pg_sub (pv 0) pe_int set_list))
      (pss_one (ps_ret (pv 2))))) pss_nil)
    (pss_cons (ps_asg (pe_op op_add (pe_ix ix_list (pv 0) pe_int (fun _ _ => rfl)) pe_int) (pg_sub (pv 0) pe_int set_list))
    (pss_cons (ps_set (i := 3) scPick.nd rfl (Or.inl rfl) (pe_op op_mod (pe_op op_powW (pe_op op_add (pe_ix ix_list (pv 0) pe_int (fun _ _ => rfl)) (pe_op op_mul pe_int (pe_ix ix_list (pv 0) pe_int (fun _ _ => rfl)))) pe_int) (pe_op op_add (pe_op op_pow pe_int pe_int) pe_int)))
    (pss_cons (ps_set (i := 3) scPick.nd rfl (Or.inl rfl) (pe_op op_mod (pe_op op_powW (pe_op op_add (pv 3) (pe_op op_mul pe_int (pe_ix ix_list (pv 0) pe_int (fun _ _ => rfl)))) pe_int) (pe_op op_add (pe_op op_pow pe_int pe_int) pe_int)))
    (pss_one (ps_ret (pe_op op_mod (pe_op op_fdivN (pv 3) pe_int) (pv 1)))))))), ?_⟩
  obtain ⟨p, m, n, rfl, ⟨x, y, z, hp, x0, y0, y1, z0, z1⟩, hn, m0, m1, hQ⟩ := h
  have hA : (10 : Int) ^ (40 : Int).toNat + 121 = 10000000000000000000000000000000000000121 := by decide
  have hB : (10 : Int) ^ (41 : Int).toNat + 37 = 100000000000000000000000000000000000000037 := by decide
  have only : ∀ {H1 : Hp} {o : HO}, (∀ b, b ≠ p → H1 b = H b) → ∀ b, b ≠ p → upd H1 p o b = H b := fun h b hb => by rw [upd_ne hb]; exact h b hb
  refine ⟨_, rfl, p, _, _, _, rfl, rfl, .inl (.inl hp), atI_nat (j := 0) rfl, _, _, rfl, rfl, _, rfl, ite2 (fun hx => ?_) (fun hx => ?_)⟩
  · have hx0 : 0 < x := of_decide_eq_true hx
    refine ⟨_, rfl, p, _, _, _, rfl, rfl, .inl (.inl hp), atI_nat (j := 0) rfl, _, rfl, _, _, rfl, rfl, m0, ?_⟩
    refine ⟨_, rfl, p, _, _, _, rfl, rfl, .inl (.inl hp), atI_nat (j := 0) rfl, _, rfl, _, _, rfl, rfl, wide_div (b := 63) m0 (by omega) (by decide) (by decide), ?_⟩
    refine ⟨_, rfl, p, _, _, 0, rfl, rfl, hp, rfl, ?_⟩
    refine ⟨_, rfl, ?_⟩
    refine hQ _ _ ⟨_, _, _, upd_same, Int.ediv_nonneg x0 (Int.le_of_lt m0), y0, y1, z0, by omega⟩ (only fun _ _ => rfl) (Int.emod_nonneg _ (by omega)) (Int.emod_lt_of_pos _ m0)
  · refine ⟨_, rfl, p, _, _, _, rfl, rfl, .inl (.inl hp), atI_nat (j := 2) rfl, _, _, rfl, rfl, _, rfl, p, _, _, 2, rfl, rfl, hp, rfl, ?_⟩
    have hp1 : upd H p (.lst [.int x, .int y, .int (z + 1)]) p = some (.lst [.int x, .int y, .int (z + 1)]) := upd_same
    obtain ⟨H1, eH⟩ : ∃ H1, H1 = upd H p (.lst [.int x, .int y, .int (z + 1)]) := ⟨_, rfl⟩
    have o1 : ∀ b, b ≠ p → H1 b = H b := by rw [eH]; exact only fun _ _ => rfl
    rw [← eH] at hp1
    rw [← show H1 = upd H p (.lst ([V.int x, V.int y, V.int z].set 2 (V.int (z + 1)))) from eH]
    have b1 : (y + 433494437 * (z + 1)).natAbs < 2 ^ 170 := by omega
    have q1 : ((Builtin.Int.intBits (y + 433494437 * (z + 1)) : Nat) : Int) * 3 ≤ 2 ^ 27 := by
      have := intBits_le b1
      omega
    refine ⟨_, rfl, p, _, _, _, rfl, rfl, .inl (.inl hp1), atI_nat (j := 1) rfl, _, rfl, p, _, _, _, rfl, rfl, .inl (.inl hp1), atI_nat (j := 2) rfl, _, _, rfl, rfl, .inl ⟨by decide, by decide⟩, _, _, rfl, rfl, _, _, rfl, rfl, ⟨by decide, q1⟩,
      _, _, rfl, rfl, ⟨by decide, by decide, by decide⟩, _, _, rfl, rfl, _, _, rfl, rfl, by show (0 : Int) < _; rw [hA]; decide, ?_⟩
    obtain ⟨m1', em⟩ : ∃ v, v = (y + 433494437 * (z + 1)) ^ (3 : Int).toNat % ((10 : Int) ^ (40 : Int).toNat + 121) := ⟨_, rfl⟩
    show gName 3 (V.int ((y + 433494437 * (z + 1)) ^ (3 : Int).toNat % ((10 : Int) ^ (40 : Int).toNat + 121))) _ _ _
    rw [← em]
    have g0 : 0 ≤ m1' := by rw [em]; exact Int.emod_nonneg _ (by rw [hA]; decide)
    have g1 : m1' < 10000000000000000000000000000000000000121 := by
      rw [em, ← hA]
      exact Int.emod_lt_of_pos _ (by rw [hA]; decide)
    have b2 : (m1' + 2971215073 * (z + 1)).natAbs < 2 ^ 140 := by omega
    have q2 : ((Builtin.Int.intBits (m1' + 2971215073 * (z + 1)) : Nat) : Int) * 5 ≤ 2 ^ 27 := by
      have := intBits_le b2
      omega
    refine ⟨_, rfl, _, rfl, p, _, _, _, rfl, rfl, .inl (.inl hp1), atI_nat (j := 2) rfl, _, _, rfl, rfl, .inl ⟨by decide, by decide⟩, _, _, rfl, rfl, _, _, rfl, rfl, ⟨by decide, q2⟩,
      _, _, rfl, rfl, ⟨by decide, by decide, by decide⟩, _, _, rfl, rfl, _, _, rfl, rfl, by show (0 : Int) < _; rw [hB]; decide, ?_⟩
    refine ⟨_, rfl, _, _, rfl, rfl, ⟨by decide, by decide⟩, _, rfl, _, _, rfl, rfl, m0, ?_⟩
    exact hQ _ _ ⟨_, _, _, hp1, x0, y0, y1, by omega, by omega⟩ o1 (Int.emod_nonneg _ (by omega)) (Int.emod_lt_of_pos _ m0)
end
end A8
set_option Elab.async false
set_option linter.all false
set_option maxRecDepth 100000
set_option maxHeartbeats 4000000
namespace A8
open PySem PySem.Spec PyProof.Rows L2 AL
open GxR (TabB TabG Tabbed)
/-- all but the pot stays -/
def Kp (p : Addr) (H H' : Hp) : Prop := ∀ b o, b ≠ p → H b = some o → H' b = some o
theorem Kp.refl {p : Addr} {H : Hp} : Kp p H H := fun _ _ _ e => e
theorem Kp.trans {p : Addr} {H H1 H2 : Hp} (a : Kp p H H1) (b : Kp p H1 H2) : Kp p H H2 := fun c o n e => b c o n (a c o n e)
theorem Kp.of {p : Addr} {H H' : Hp} (h : ∀ b, b ≠ p → H' b = H b) : Kp p H H' := fun b o n e => (h b n).trans e
theorem Kp.new {p q : Addr} {H : Hp} {o : HO} (h : H q = none) : Kp p H (upd H q o) := fun b u _ e => by rw [upd_ne (ne_of_none e h)]; exact e
theorem Kp.put {p q : Addr} {H H1 : Hp} {o : HO} (k : Kp p H H1) (h : H q = none) : Kp p H (upd H1 q o) := fun b u n e => by rw [upd_ne (ne_of_none e h)]; exact k b u n e
theorem Kp.same {p : Addr} {H H1 : Hp} (h : Same H H1) : Kp p H H1 := fun b o _ e => h b o e
theorem Kp.free {p q : Addr} {H H1 : Hp} (k : Kp p H H1) (h : H1 q = none) (n : q ≠ p) : H q = none := by
  cases z : H q with
  | none => rfl
  | some o =>
    rw [k q o n z] at h
    cases h
theorem PotAt.upd {H : Hp} {p q : Addr} {n : Nat} {o : HO} (h : PotAt H p n) (ne : p ≠ q) : PotAt (upd H q o) p n := by
  obtain ⟨x, y, z, e, r⟩ := h
  exact ⟨x, y, z, by rw [upd_ne ne]; exact e, r⟩
theorem PotAt.ne {H : Hp} {p q : Addr} {n : Nat} (h : PotAt H p n) (hq : H q = none) : q ≠ p := fun z => by
  obtain ⟨x, y, z', e, _⟩ := h
  rw [z, e] at hq
  cases hq
theorem PotAt.ne' {H : Hp} {p q : Addr} {n : Nat} {o : HO} (h : PotAt H p n) (hq : H q = some o) (no : ∀ x y z : Int, o ≠ .lst [.int x, .int y, .int z]) : q ≠ p := fun z => by
  obtain ⟨x, y, z', e, _⟩ := h
  rw [z, e] at hq
  exact no x y z' (Option.some.inj hq).symm
theorem PotAt.mono {H : Hp} {p : Addr} {n m : Nat} (h : PotAt H p n) (l : n ≤ m) : PotAt H p m := by
  obtain ⟨x, y, z, e, a, b, c, d, f⟩ := h
  exact ⟨x, y, z, e, a, b, c, d, by omega⟩
theorem erase_map {α β : Type} (f : α → β) : ∀ (l : List α) (i : Nat), (l.map f).eraseIdx i = (l.eraseIdx i).map f
  | [], _ => rfl
  | _ :: _, 0 => rfl
  | a :: l, i + 1 => congrArg (f a :: ·) (erase_map f l i)
theorem erase_perm {α : Type} : ∀ (l : List α) (i : Nat) (y : α), l[i]? = some y → (y :: l.eraseIdx i).Perm l
  | a :: l, 0, y, h => by
    have e : a = y := Option.some.inj h
    rw [e]
    exact .refl _
  | a :: l, i + 1, y, h => (List.Perm.swap a y (l.eraseIdx i)).trans ((erase_perm l i y h).cons a)
theorem names_ne_pot {xs : List Str} (x y z : Int) : HO.lst (xs.map V.str) ≠ .lst [.int x, .int y, .int z] := fun e => by
  injection e with e
  cases xs with
  | nil => cases e
  | cons a xs => injection e with e1 _; cases e1
end A8
set_option Elab.async false
set_option linter.all false
set_option maxRecDepth 100000
set_option maxHeartbeats 4000000
namespace A8
open PySem PySem.Spec PyProof.Rows L2 AL
open GxR (TabB TabG Tabbed)
theorem snew {G : Hp} {x : Addr} {o : HO} (h : G x = none) : Same G (upd G x o) := fun b u e => by
  rw [upd_ne (ne_of_none e h)]
  exact e
theorem walk_str {x : Str} : Walk (Its x) x.cps.size (fun _ => True) (fun i H v H' => H' = H ∧ ∃ c, x.cps[i]? = some c ∧ v = .str ⟨#[c]⟩) := ⟨fun _ _ hi _ => hi, fun _ _ => Nat.le_refl _, fun _ _ _ _ _ _ y => y⟩
def letS : Str := "abcdefghijklmnopqrstuvwxyz"
def poolA : List Str := ["a", "b", "p", "g", "z", "ask", "net", "line", "none", "empty", "abcdefgh", "abcdefgi", "zzzzzzzz"]
def poolN : List Str := letS.cps.toList.map fun c => ("n" : Str) ++ (⟨#[c]⟩ : Str)
def poolK : List Str := letS.cps.toList.map fun c => ("k" : Str) ++ (⟨#[c]⟩ : Str)
def poolL : List Str := poolA ++ poolN ++ poolK
def nameB (x : Str) : Bool := decide (1 ≤ x.cps.size) && decide (x.cps.size ≤ 8) && x.cps.toList.all fun c => decide (97 ≤ c) && decide (c ≤ 122)
theorem nameB_ok {x : Str} (h : nameB x = true) : NameOk x := by
  unfold nameB at h
  rw [Bool.and_eq_true, Bool.and_eq_true, decide_eq_true_eq, decide_eq_true_eq] at h
  refine ⟨h.1.1, h.1.2, fun c hc => ?_⟩
  have := List.all_eq_true.mp h.2 c hc
  rw [Bool.and_eq_true, decide_eq_true_eq, decide_eq_true_eq] at this
  exact this
theorem pool_ok : ∀ x ∈ poolL, NameOk x := fun x hx => nameB_ok (List.all_eq_true.mp (show poolL.all nameB = true by decide +kernel) x hx)
theorem pool_nd : poolL.Nodup := by decide +kernel
theorem pool_len : poolL.length = 65 := by decide +kernel
abbrev sNames : Stmt := top 23
abbrev nNames : List Str := ["source", "size", "pool", "letters", "letter", "turn"]
theorem scNames : FnScope nNames ["source", "size"] (defScope sNames) := ⟨rfl, rfl, rfl, by decide +kernel, rfl, by decide +kernel, by decide +kernel⟩
def spNames : Sp := fun vs H Q _ => ∃ (p : Addr) (m n : Nat), vs = [.ref p, .int m] ∧ PotAt H p n ∧ n + m < 2 ^ 40 ∧ m ≤ 65 ∧
  ∀ (H' : Hp) (q : Addr) (ys rest : List Str), Kp p H H' → H q = none → H' q = some (.lst (ys.map V.str)) → PotAt H' p (n + m) → (ys ++ rest).Perm poolL → ys.length = m → Q (.ref q) H'
section
variable {P : Program} {w : World} {K : PySem.W.Frag} {mg : Str → Option Value} {base : Heap} {f c p1 : Addr} {fd : FuncData} {Ps : List Addr}
theorem ok_names (F : FunD K "_law_names" "_law_names" (defArgs sNames) (defBody sNames) (defScope sNames) [] [] f fd) (cT : Cal P w K mg base 1 "_law_pick" spPick) (gL : mg "len" = none) (gR : mg "range" = none) : FnOk P w K mg base CX0 2 f fd ["source", "size"] spNames := by
  refine F.ok scNames (fun vs H Q E h => ?_) ?_
  · obtain ⟨p, m, n, rfl, _⟩ := h
    rfl
  intro cdv A outer s H vs Q E hr h
  refine ⟨_, PSs.nox (pss_cons (ps_set (i := 2) scNames.nd rfl (Or.inr rfl) (pe_lst (pa_cons pe_str (pa_cons pe_str (pa_cons pe_str (pa_cons pe_str (pa_cons pe_str (pa_cons pe_str (pa_cons pe_str (pa_cons pe_str (pa_cons pe_str (pa_cons pe_str (pa_cons pe_str (pa_cons pe_str (pa_cons pe_str pa_nil)))))))))))))))
    (pss_cons (ps_set (i := 3) scNames.nd rfl (Or.inl rfl) pe_str)
    (pss_cons (ps_set (i := 2) scNames.nd rfl (Or.inr rfl) (pe_op op_cat (pe_op op_cat (pv 2)
      (pe_lc (own := [("letter", 4)]) (g := gName 4) (tt := tYes) rfl scNames.nd (pi_str (pv 3)) (blkOk_by (N := nNames) (sc := defScope sNames) (by decide +kernel)) (fun _ _ _ _ _ => pg_name (i := 4) scNames.nd rfl (Or.inl rfl)) (fun _ _ _ _ _ => pts_nil) (fun _ _ _ _ _ => pe_op op_add_str pe_str (pv 4))))
      (pe_lc (own := [("letter", 4)]) (g := gName 4) (tt := tYes) rfl scNames.nd (pi_str (pv 3)) (blkOk_by (N := nNames) (sc := defScope sNames) (by decide +kernel)) (fun _ _ _ _ _ => pg_name (i := 4) scNames.nd rfl (Or.inl rfl)) (fun _ _ _ _ _ => pts_nil) (fun _ _ _ _ _ => pe_op op_add_str pe_str (pv 4)))))
    (pss_one (ps_ret (pe_lc (own := [("turn", 5)]) (g := gName 5) (tt := tYes) (te := tBM K "list" rPopAt (tVar 2) (tCons (tCall spPick [] E0 (tCons (tVar 0) (tCons (tCB (rLenQ K) (tCons (tVar 2) tNil)) tNil))) tNil)) rfl scNames.nd (pi_range1 rfl gR (pa_cons (pv 1) pa_nil)) (blkOk_by (N := nNames) (sc := defScope sNames) (by decide +kernel))
      (fun _ _ _ _ _ => pg_name (i := 5) scNames.nd rfl (Or.inl rfl)) (fun _ _ _ _ _ => pts_nil)
      (fun _ _ _ _ _ => pe_bm PySem.F.plainAttrs_list PySem.F.slot_list_pop PySem.F.type_list_pop mt_popAt (pv 2) (pa_cons (pe_c cT hr (by decide) rfl (pa_cons (pv 0) (pa_cons (pe_callB call_len_seq rfl gL boot_len (pa_cons (pv 2) pa_nil)) pa_nil))) pa_nil)))))))), ?_⟩
  obtain ⟨p, m, n, rfl, hP, hn, hm, hQ⟩ := h
  refine seq_asg (fun v H1 => ∃ a, v = .ref a ∧ Same H H1 ∧ H1 a = some (.lst (poolA.map V.str))) (fun Q' hQ' => ?_) ?_
  · exact ⟨by show 13 ≤ sizeLine; decide, fun l hl => hQ' _ _ ⟨l, rfl, snew hl, upd_same⟩⟩
  rintro _ H1 ⟨l0, rfl, s1, h1⟩
  refine seq_asg (fun v H1' => v = .str letS ∧ H1 = H1') (fun Q' hQ' => hQ' _ _ ⟨rfl, rfl⟩) ?_
  rintro _ _ ⟨rfl, rfl⟩
  refine seq_asg (fun v H2 => ∃ a, v = .ref a ∧ Same H1 H2 ∧ H1 a = none ∧ H2 a = some (.lst (poolL.map V.str))) (fun Q' hQ' => ?_) ?_
  · refine ⟨_, rfl, _, rfl, letS, rfl, fun D hD => ?_⟩
    have grow : ∀ (G : Hp) (D : Addr) (z : Str) (zs : List Str), zs = (letS.cps.toList.map fun c => z ++ (⟨#[c]⟩ : Str)) → zs.length = 26 → ∀ i, i < 26 → ∀ ch, letS.cps[i]? = some ch → upd G D (.lst ((zs.take i).map V.str ++ [.str (z ++ ⟨#[ch]⟩)])) = upd G D (.lst ((zs.take (i + 1)).map V.str)) := by
      intro G D z zs e hl i hi ch hc
      have e2 : zs[i]? = some (z ++ (⟨#[ch]⟩ : Str)) := by
        rw [e, List.getElem?_map, Array.getElem?_toList, hc]
        rfl
      rw [List.take_succ, e2, List.map_append]
      rfl
    have l26 : letS.cps.size = 26 := by decide +kernel
    have nl : poolN.length = 26 := by decide +kernel
    have kl : poolK.length = 26 := by decide +kernel
    refine lc_it walk_str (fun i H' => H' = upd H1 D (.lst ((poolN.take i).map V.str))) rfl (fun _ _ _ _ => trivial) ?_ ?_
    · rintro i x H' H'' hi rfl ⟨rfl, ch, hc, rfl⟩
      rw [l26] at hi
      refine ⟨rfl, _, rfl, _, _, rfl, rfl, by show 1 + 1 ≤ sizeLine; rw [sizeLine_eq]; omega, _, upd_same, ?_, ?_⟩
      · rw [List.length_map, List.length_take, sizeLine_eq]
        omega
      · rw [upd_upd]
        exact grow H1 D "n" poolN rfl nl i hi ch hc
    · rintro H' rfl
      have e : poolN.take letS.cps.size = poolN := List.take_of_length_le (by rw [nl, l26]; exact Nat.le_refl _)
      rw [e]
      have a2 : Same H1 (upd H1 D (.lst (poolN.map V.str))) := snew hD
      have b2 : upd H1 D (.lst (poolN.map V.str)) D = some (.lst (poolN.map V.str)) := upd_same
      generalize upd H1 D (.lst (poolN.map V.str)) = H2 at a2 b2
      refine ⟨l0, D, _, _, rfl, rfl, a2 _ _ h1, b2, by rw [sizeLine_eq]; decide +kernel, fun c1 hc1 => ?_⟩
      have a3 : Same H2 (upd H2 c1 (.lst (poolA.map V.str ++ poolN.map V.str))) := snew hc1
      have b3 : upd H2 c1 (.lst (poolA.map V.str ++ poolN.map V.str)) c1 = some (.lst ((poolA ++ poolN).map V.str)) := by rw [upd_same, List.map_append]
      generalize upd H2 c1 (.lst (poolA.map V.str ++ poolN.map V.str)) = H3 at a3 b3
      refine ⟨_, rfl, letS, rfl, fun D2 hD2 => ?_⟩
      refine lc_it walk_str (fun i H' => H' = upd H3 D2 (.lst ((poolK.take i).map V.str))) rfl (fun _ _ _ _ => trivial) ?_ ?_
      · rintro i x H' H'' hi rfl ⟨rfl, ch, hc, rfl⟩
        rw [l26] at hi
        refine ⟨rfl, _, rfl, _, _, rfl, rfl, by show 1 + 1 ≤ sizeLine; rw [sizeLine_eq]; omega, _, upd_same, ?_, ?_⟩
        · rw [List.length_map, List.length_take, sizeLine_eq]
          omega
        · rw [upd_upd]
          exact grow H3 D2 "k" poolK rfl kl i hi ch hc
      · rintro H' rfl
        have e' : poolK.take letS.cps.size = poolK := List.take_of_length_le (by rw [kl, l26]; exact Nat.le_refl _)
        rw [e']
        have a4 : Same H3 (upd H3 D2 (.lst (poolK.map V.str))) := snew hD2
        have b4 : upd H3 D2 (.lst (poolK.map V.str)) D2 = some (.lst (poolK.map V.str)) := upd_same
        generalize upd H3 D2 (.lst (poolK.map V.str)) = H4 at a4 b4
        refine ⟨c1, D2, _, _, rfl, rfl, a4 _ _ b3, b4, by rw [sizeLine_eq]; decide +kernel, fun a ha => ?_⟩
        refine hQ' _ _ ⟨a, rfl, a2.trans (a3.trans (a4.trans (snew ha))), (a2.trans (a3.trans a4)).free ha, ?_⟩
        rw [upd_same, ← List.map_append]
        rfl
  rintro _ H2 ⟨L, rfl, s2, hL1, hL2⟩
  have s02 : Same H H2 := s1.trans s2
  have hP1 : PotAt H2 p n := by
    obtain ⟨x, y, z, e, r⟩ := hP
    exact ⟨x, y, z, s02 _ _ e, r⟩
  have k1 : Kp p H H2 := .same s02
  have Lp : L ≠ p := hP1.ne' hL2 names_ne_pot
  have hL : H L = none := s1.free hL1
  refine ⟨_, rfl, (m : Int), rfl, by omega, by omega, fun D hD => ?_⟩
  have Dp : D ≠ p := hP1.ne hD
  have DL : D ≠ L := fun z => by rw [z, hL2] at hD; cases hD
  have HD : H D = none := k1.free hD Dp
  refine lc_range (lo := 0) (n := (m : Int).toNat) (fun i H' => ∃ ys rest : List Str, Kp p H H' ∧ H' D = some (.lst (ys.map V.str)) ∧ H' L = some (.lst (rest.map V.str)) ∧ PotAt H' p (n + i) ∧ (ys ++ rest).Perm poolL ∧ ys.length = i)
    ⟨[], poolL, k1.put HD, upd_same, by rw [upd_ne (Ne.symm DL)]; exact hL2, hP1.upd (Ne.symm Dp), .refl _, rfl⟩ ?_ ?_
  · rintro i H' hi ⟨ys, rest, k, hd, hl, hp, pm, le⟩
    have hi' : i < m := by omega
    have hlen : ys.length + rest.length = 65 := by
      have := pm.length_eq
      rw [List.length_append, pool_len] at this
      exact this
    refine ⟨rfl, _, rfl, .inl ⟨rfl, _, .inl (.inl hl)⟩, _, rfl, _, rfl, L, _, rfl, .inl (.inl (.inl hl)), p, _, n + i, rfl, hp, by omega, ?_, ?_, fun H2 j hp2 only j0 j1 => ?_⟩
    · rw [List.length_map]; omega
    · rw [List.length_map]; omega
    · have hl2 : H2 L = some (.lst (rest.map V.str)) := (only L Lp).trans hl
      have hd2 : H2 D = some (.lst (ys.map V.str)) := (only D Dp).trans hd
      rw [List.length_map] at j1
      obtain ⟨jn, rfl⟩ : ∃ jn : Nat, j = jn := ⟨j.toNat, (Int.toNat_of_nonneg j0).symm⟩
      have jl : jn < rest.length := by omega
      obtain ⟨y, hy⟩ : ∃ y, rest[jn]? = some y := ⟨_, List.getElem?_eq_getElem jl⟩
      refine ⟨L, rest.map V.str, jn, jn, .str y, rfl, rfl, hl2, by omega, by omega, ?_, by rw [List.getElem?_map, hy]; rfl, ?_⟩
      · exact (ixN_seq (show ixN (rest.map V.str).length (jn : Int) = some jn from by
          unfold ixN
          rw [if_pos (by omega), if_pos (by rw [List.length_map]; omega), Int.toNat_natCast])).1
      · rw [erase_map]
        refine ⟨ys.map V.str, by rw [upd_ne DL]; exact hd2, by rw [List.length_map, sizeLine_eq]; omega, ys ++ [y], rest.eraseIdx jn, ?_, ?_, ?_, ?_, ?_, ?_⟩
        · exact ((k.trans (Kp.of only)).put hL).put HD
        · rw [upd_same, List.map_append]
          rfl
        · rw [upd_ne (Ne.symm DL)]
          exact upd_same
        · exact (hp2.upd (Ne.symm Lp)).upd (Ne.symm Dp)
        · rw [List.append_assoc]
          exact ((erase_perm rest jn y hy).append_left ys).trans pm
        · rw [List.length_append, le]
          rfl
  · rintro H' ⟨ys, rest, k, hd, hl, hp, pm, le⟩
    rw [Int.toNat_natCast] at hp le
    exact hQ H' D ys rest k HD hd hp pm le
end
end A8
set_option Elab.async false
set_option linter.all false
set_option maxRecDepth 100000
set_option maxHeartbeats 4000000
namespace A8
open PySem PySem.Spec PyProof.Rows L2 AL
open GxR (TabB TabG Tabbed)
abbrev sTree : Stmt := top 24
abbrev nTree : List Str := ["source", "most", "names", "shape", "found", "at", "near", "to", "name"]
theorem scTree : FnScope nTree ["source", "most"] (defScope sTree) := ⟨rfl, rfl, rfl, by decide +kernel, rfl, by decide +kernel, by decide +kernel⟩
def spTree : Sp := fun vs H Q _ => ∃ (p : Addr) (m n : Nat), vs = [.ref p, .int m] ∧ PotAt H p n ∧ n + 300 < 2 ^ 40 ∧ 1 ≤ m ∧ m ≤ 40 ∧
  ∀ (H' : Hp) (d : Addr) (t : List Row), Kp p H H' → H d = none → H' d = some (.dK (kvsOf t)) → RowsAt H' t → OkTree t → t.length ≤ m → (∀ r ∈ t, r.1 ∈ poolL) → (t.map (·.2.1)).Nodup → (∀ r ∈ t, H r.2.1 = none) → PotAt H' p (n + 300) → Q (.ref d) H'
theorem mergeK_rows : ∀ {t u : List Row}, ((u ++ t).map (·.1)).Nodup → mergeK (kvsOf u) (kvsOf t) = kvsOf (u ++ t)
  | [], u, _ => by rw [List.append_nil]; rfl
  | r :: t, u, nd => by
    have hn : valV (kvsOf u) (Sum.inr r.1) = none := by
      cases q : valV (kvsOf u) (Sum.inr r.1) with
      | none => rfl
      | some v =>
        have hm : (Sum.inr r.1 : Key) ∈ (kvsOf u).map (·.1) := valV_in q
        rw [kvsOf, List.map_map] at hm
        obtain ⟨s, hs, e⟩ := List.mem_map.mp hm
        rw [List.map_append, List.nodup_append] at nd
        exact (nd.2.2 s.1 (List.mem_map.mpr ⟨s, hs, rfl⟩) r.1 List.mem_cons_self (Sum.inr.inj e)).elim
    have e1 : putK (kvsOf u) (Sum.inr r.1) (.ref r.2.1) = kvsOf (u ++ [r]) := by
      rw [putK_new _ hn, kvsOf, kvsOf, List.map_append]
      rfl
    show mergeK (putK (kvsOf u) (Sum.inr r.1) (.ref r.2.1)) (kvsOf t) = _
    rw [e1, mergeK_rows (u := u ++ [r]) (by rw [List.append_assoc]; exact nd), List.append_assoc]
    rfl
theorem mergeK_rows0 {t : List Row} (nd : (t.map (·.1)).Nodup) : mergeK [] (kvsOf t) = kvsOf t := mergeK_rows (u := []) nd
abbrev TupsAt (H : Hp) (tps : List Addr) (t : List Row) : Prop := Paired (fun a (r : Row) => H a = some (.tup [.str r.1, .ref r.2.1])) tps t
theorem TupsAt.keep {H H' : Hp} {ts : List Addr} {rs : List Row} (h : TupsAt H ts rs) (k : ∀ b xs, H b = some (.tup xs) → H' b = some (.tup xs)) : TupsAt H' ts rs := by
  unfold TupsAt at h ⊢
  induction h with
  | nil => exact .nil
  | cons h _ ih => exact .cons (k _ _ h) ih
theorem TupsAt.snoc {H : Hp} {ts : List Addr} {rs : List Row} {a : Addr} {r : Row} (h : TupsAt H ts rs) (e : H a = some (.tup [.str r.1, .ref r.2.1])) : TupsAt H (ts ++ [a]) (rs ++ [r]) := by
  unfold TupsAt at h ⊢
  induction h with
  | nil => exact .cons e .nil
  | cons h _ ih => exact .cons h ih
theorem TupsAt.len {H : Hp} {ts : List Addr} {rs : List Row} (h : TupsAt H ts rs) : ts.length = rs.length := by
  unfold TupsAt at h
  induction h with
  | nil => rfl
  | cons _ _ ih => rw [List.length_cons, List.length_cons, ih]
theorem TupsAt.pairs {K : PySem.W.Frag} {H : Hp} {ts : List Addr} {rs : List Row} (h : TupsAt H ts rs) : Paired (fun (p : Addr) (kv : Key × V) => SqT K H p [kV kv.1, kv.2]) ts (kvsOf rs) := by
  unfold TupsAt at h
  induction h with
  | nil => exact .nil
  | cons h _ ih => exact .cons (.inl (.inl h)) ih
/-- the dict of lists while it grows -/
structure Near (H : Hp) (N : Addr) (ns : List Str) (zs : List Row) (adj : Nat → List Nat) : Prop where
  d : H N = some (.dK (kvsOf zs))
  nm : zs.map (·.1) = ns
  ad : (zs.map (·.2.1)).Nodup
  at_ : ∀ v r, zs[v]? = some r → H r.2.1 = some (.lst (((adj v).map (nmAt ns)).map V.str))
theorem Near.row {H : Hp} {N : Addr} {ns : List Str} {zs : List Row} {adj : Nat → List Nat} (h : Near H N ns zs adj) {v : Nat} (hv : v < ns.length) : ∃ r, zs[v]? = some r ∧ r ∈ zs ∧ r.1 = nmAt ns v := by
  have hv' : v < zs.length := by
    rw [← h.nm, List.length_map] at hv
    exact hv
  refine ⟨zs[v], List.getElem?_eq_getElem hv', List.getElem_mem hv', ?_⟩
  have e : (zs.map (·.1))[v]? = some zs[v].1 := by rw [List.getElem?_map, List.getElem?_eq_getElem hv']; rfl
  rw [h.nm] at e
  rw [nmAt, List.getD_eq_getElem?_getD, e]
  rfl
theorem Near.get {H : Hp} {N : Addr} {ns : List Str} {zs : List Row} {adj : Nat → List Nat} (h : Near H N ns zs adj) (nd : ns.Nodup) {r : Row} (hr : r ∈ zs) : DGet H N (.str r.1) (some (.ref r.2.1)) :=
  .inl ⟨_, Sum.inr r.1, .inl h.d, rfl, (valV_row hr (by rw [h.nm]; exact nd)).symm⟩
theorem Near.addr {H : Hp} {N : Addr} {ns : List Str} {zs : List Row} {adj : Nat → List Nat} (h : Near H N ns zs adj) {v u : Nat} {r s : Row} (hr : zs[v]? = some r) (hs : zs[u]? = some s) (e : r.2.1 = s.2.1) : v = u := by
  obtain ⟨lv, ev⟩ := List.getElem?_eq_some_iff.mp hr
  obtain ⟨lu, eu⟩ := List.getElem?_eq_some_iff.mp hs
  have l1 : v < (zs.map (·.2.1)).length := by rw [List.length_map]; exact lv
  have l2 : u < (zs.map (·.2.1)).length := by rw [List.length_map]; exact lu
  refine (List.getElem_inj (h₀ := l1) (h₁ := l2) h.ad).mp ?_
  rw [List.getElem_map, List.getElem_map, ev, eu, e]
/-- one more name in the list of v -/
theorem Near.add {H : Hp} {N : Addr} {ns : List Str} {zs : List Row} {adj : Nat → List Nat} (h : Near H N ns zs adj) {v u : Nat} {r : Row} (hr : zs[v]? = some r) :
    Near (upd H r.2.1 (.lst (((adj v).map (nmAt ns)).map V.str ++ [.str (nmAt ns u)]))) N ns zs fun w => if w = v then adj w ++ [u] else adj w where
  d := by
    rw [upd_ne fun z => ?_]
    · exact h.d
    · have := h.at_ v r hr
      rw [← z, h.d] at this
      cases this
  nm := h.nm
  ad := h.ad
  at_ := fun w s hs => by
    by_cases e : w = v
    · rw [e, hr] at hs
      cases hs
      rw [e, upd_same, if_pos rfl, List.map_append, List.map_append]
      rfl
    · rw [if_neg e, upd_ne fun z => e (h.addr hs hr z)]
      exact h.at_ w s hs
theorem Near.keep {p : Addr} {H H' : Hp} {N : Addr} {ns : List Str} {zs : List Row} {adj : Nat → List Nat} {n : Nat} (h : Near H N ns zs adj) (hp : PotAt H p n) (k : Kp p H H') : Near H' N ns zs adj :=
  ⟨k _ _ (hp.ne' h.d fun _ _ _ z => by cases z) h.d, h.nm, h.ad, fun v r hr => k _ _ (hp.ne' (h.at_ v r hr) names_ne_pot) (h.at_ v r hr)⟩
theorem at_nm {ns : List Str} {v : Nat} (h : v < ns.length) : atI (ns.map V.str) (v : Int) = some (.str (nmAt ns v)) := atI_nat (by
  rw [List.getElem?_map, List.getElem?_eq_getElem h, nmAt_eq h]
  rfl)
section
variable {P : Program} {w : World} {K : PySem.W.Frag} {mg : Str → Option Value} {base : Heap} {f c p1 : Addr} {fd : FuncData} {Ps : List Addr}
theorem ok_tree (F : FunD K "_law_tree" "_law_tree" (defArgs sTree) (defBody sTree) (defScope sTree) [] [] f fd) (cT : Cal P w K mg base 1 "_law_pick" spPick) (cS : Cal P w K mg base 2 "_law_names" spNames)
    (gR : mg "range" = none) (gL : mg "len" = none) (gM : mg "max" = none) (gS : mg "sorted" = none) (gD : mg "dict" = none) : FnOk P w K mg base CX0 3 f fd ["source", "most"] spTree := by
  refine F.ok scTree (fun vs H Q E h => ?_) ?_
  · obtain ⟨p, m, n, rfl, _⟩ := h
    rfl
  intro cdv A outer s H vs Q E hr h
  refine ⟨_, PSs.nox (pss_cons (ps_set (i := 2) scTree.nd rfl (Or.inl rfl) (pe_c cS hr (by decide) rfl (pa_cons (pv 0) (pa_cons (pe_op op_add pe_int (pe_c cT hr (by decide) rfl (pa_cons (pv 0) (pa_cons (pv 1) pa_nil)))) pa_nil))))
    (pss_cons (ps_set (i := 3) scTree.nd rfl (Or.inl rfl) (pe_c cT hr (by decide) rfl (pa_cons (pv 0) (pa_cons pe_int pa_nil))))
    (pss_cons (ps_set (i := 4) scTree.nd rfl (Or.inr rfl) (pe_callTy (call_dictP rfl) rfl gD (by decide +kernel) (pa_cons
      (pe_lc (own := [("name", 8)]) (g := gName 8) (tt := tYes) rfl scTree.nd (pi_list (pv 2)) (blkOk_by (N := nTree) (sc := defScope sTree) (by decide +kernel)) (fun _ _ _ _ _ => pg_name (i := 8) scTree.nd rfl (Or.inl rfl)) (fun _ _ _ _ _ => pts_nil) (fun _ _ _ _ _ => pe_tup (pa_cons (pv 8) (pa_cons (pe_lst pa_nil) pa_nil)))) pa_nil)))
    (pss_cons (ps_for PassesOwn.never rfl (pi_range2 rfl gR (pa_cons pe_int (pa_cons (pe_callB call_len_seq rfl gL boot_len (pa_cons (pv 2) pa_nil)) pa_nil))) (pg_name (i := 5) scTree.nd rfl (Or.inl rfl))
      (pss_cons (ps_set (i := 6) scTree.nd rfl (Or.inl rfl) (pe_callB (call_max2 rfl) rfl gM (by decide +kernel) (pa_cons pe_int (pa_cons (pe_op op_sub (pe_op op_sub (pv 5) pe_int) (pe_c cT hr (by decide) rfl (pa_cons (pv 0) (pa_cons pe_int pa_nil)))) pa_nil))))
      (pss_cons (ps_set (i := 7) scTree.nd rfl (Or.inl rfl) (pe_ix ix_list (pe_lst (pa_cons (pe_op op_sub (pv 5) pe_int) (pa_cons pe_int (pa_cons (pe_c cT hr (by decide) rfl (pa_cons (pv 0) (pa_cons (pv 5) pa_nil))) (pa_cons (pv 6) pa_nil))))) (pv 3) (fun _ _ => rfl)))
      (pss_cons (ps_expr (pe_bm PySem.F.plainAttrs_list PySem.F.slot_list_append PySem.F.type_list_append mt_append (pe_dget (hu_of hr) (pv 4) (pe_ix ix_list (pv 2) (pv 5) (fun _ _ => rfl)) (fun _ _ => rfl)) (pa_cons (pe_ix ix_list (pv 2) (pv 7) (fun _ _ => rfl)) pa_nil)))
      (pss_one (ps_expr (pe_bm PySem.F.plainAttrs_list PySem.F.slot_list_append PySem.F.type_list_append mt_append (pe_dget (hu_of hr) (pv 4) (pe_ix ix_list (pv 2) (pv 7) (fun _ _ => rfl)) (fun _ _ => rfl)) (pa_cons (pe_ix ix_list (pv 2) (pv 5) (fun _ _ => rfl)) pa_nil))))))))
    (pss_one (ps_ret (pe_callTy (call_dictP rfl) rfl gD (by decide +kernel) (pa_cons
      (pe_lc (own := [("name", 8)]) (g := gName 8) (tt := tYes) (te := tTup (tCons (tVar 8) (tCons (tCB (rSortedS K) (tCons (tDGet (tVar 4) (tVar 8)) tNil)) tNil))) rfl scTree.nd (pi_list (pv 2)) (blkOk_by (N := nTree) (sc := defScope sTree) (by decide +kernel))
        (fun _ _ _ _ _ => pg_name (i := 8) scTree.nd rfl (Or.inl rfl)) (fun _ _ _ _ _ => pts_nil) (fun _ _ _ _ _ => pe_tup (pa_cons (pv 8) (pa_cons (pe_callB cr_sortedS rfl gS (by decide +kernel) (pa_cons (pe_dget (hu_of hr) (pv 4) (pv 8) (fun _ _ => rfl)) pa_nil)) pa_nil)))) pa_nil)))))))), ?_⟩
  obtain ⟨p, m, n, rfl, hP, hn, m1, m39, hQ⟩ := h
  -- names
  refine ⟨_, rfl, _, rfl, _, rfl, p, m, n, rfl, hP, by omega, by omega, by omega, fun H1 iz hp1 only1 i0 i1 => ?_⟩
  obtain ⟨i, rfl⟩ : ∃ i : Nat, iz = i := ⟨iz.toNat, (Int.toNat_of_nonneg i0).symm⟩
  refine ⟨_, _, rfl, rfl, p, 1 + i, n + 1, ?_, hp1, by omega, by omega, fun H2 NS ns rest k2 hNS0 hNS hp2 pm2 le2 => ?_⟩
  · show [V.ref p, V.int (1 + (i : Int))] = [V.ref p, V.int ((1 + i : Nat) : Int)]
    rw [Int.natCast_add]
    rfl
  have k02 : Kp p H H2 := (Kp.of only1).trans k2
  have nsn : ns.Nodup := (List.nodup_append.mp (pm2.symm.nodup pool_nd)).1
  have nsp : ∀ x ∈ ns, x ∈ poolL := fun x hx => pm2.subset (List.mem_append_left _ hx)
  have nsok : ∀ x ∈ ns, NameOk x := fun x hx => pool_ok x (nsp x hx)
  have NSp : NS ≠ p := hp2.ne' hNS names_ne_pot
  -- shape, found
  refine ⟨_, rfl, p, 4, n + 1 + (1 + i), rfl, hp2, by omega, by decide, by decide, fun H3 w hp3 only3 w0 w1 => ?_⟩
  have hNS3 : H3 NS = some (.lst (ns.map V.str)) := (only3 NS NSp).trans hNS
  have k3 : Kp p H H3 := k02.trans (Kp.of only3)
  refine ⟨_, rfl, NS, rfl, ⟨_, .inl (.inl hNS3)⟩, fun D hD => ?_⟩
  have Dp : D ≠ p := hp3.ne hD
  have DNS : NS ≠ D := ne_of_none hNS3 hD
  refine lc_list (K := K) (xs := ns.map V.str) (fun i H' => ∃ (zs : List Row) (tps : List Addr), Same H3 H' ∧ H' D = some (.lst (tps.map V.ref)) ∧ zs.map (·.1) = ns.take i ∧ (zs.map (·.2.1)).Nodup ∧ TupsAt H' tps zs ∧ (∀ r ∈ zs, H' r.2.1 = some (.lst [])) ∧ ∀ r ∈ zs, H3 r.2.1 = none)
    ⟨[], [], snew hD, upd_same, rfl, .nil, .nil, fun r hr => absurd hr List.not_mem_nil, fun r hr => absurd hr List.not_mem_nil⟩ (fun i H' _ ⟨_, _, sm, _⟩ => .inl (.inl (sm _ _ hNS3))) ?_ ?_
  · rintro i x H' hx ⟨zs, tps, sm, hd, hnm, had, htp, hls, hfr⟩
    rw [List.getElem?_map] at hx
    cases hy : ns[i]? with
    | none => rw [hy] at hx; cases hx
    | some y =>
      rw [hy] at hx
      cases hx
      have hi : i < ns.length := (List.getElem?_eq_some_iff.mp hy).1
      refine ⟨rfl, _, rfl, by show 0 ≤ sizeLine; exact Nat.zero_le _, fun l hl => ⟨by show 2 ≤ sizeLine; decide, fun tp htp0 => ?_⟩⟩
      have tl : tp ≠ l := fun z => by rw [z, upd_same] at htp0; cases htp0
      have htp1 : H' tp = none := by rw [upd_ne tl] at htp0; exact htp0
      have Dl : D ≠ l := ne_of_none hd hl
      have Dt : D ≠ tp := ne_of_none hd htp1
      have len : tps.length = i := by
        have e := congrArg List.length hnm
        rw [List.length_map, List.length_take] at e
        rw [htp.len]
        omega
      refine ⟨tps.map V.ref, by rw [upd_ne Dt, upd_ne Dl]; exact hd, by rw [List.length_map, len, sizeLine_eq]; omega, zs ++ [(y, l, [])], tps ++ [tp], fun b o e => ?_, ?_, ?_, ?_, ?_, fun r hr => ?_, fun r hr => ?_⟩
      · rw [upd_ne (ne_of_none e hD), upd_ne (ne_of_none (sm _ _ e) htp1), upd_ne (ne_of_none (sm _ _ e) hl)]
        exact sm _ _ e
      · rw [upd_same, List.map_append]
        rfl
      · rw [List.map_append, hnm, List.take_succ, hy]
        rfl
      · rw [List.map_append]
        refine List.nodup_append.mpr ⟨had, by simp, fun a ha b hb e => ?_⟩
        obtain ⟨r, hr, er⟩ := List.mem_map.mp ha
        have := hls r hr
        rw [er, e, show b = l from List.mem_singleton.mp hb, hl] at this
        cases this
      · refine TupsAt.snoc (htp.keep fun b xs e => ?_) ?_
        · have z2 : b ≠ D := fun z => by rw [z, hd] at e; cases e
          rw [upd_ne z2, upd_ne (ne_of_none e htp1), upd_ne (ne_of_none e hl)]
          exact e
        · rw [upd_ne (Ne.symm Dt)]
          exact upd_same
      · rcases List.mem_append.mp hr with z | z
        · have e := hls r z
          have z2 : r.2.1 ≠ D := fun q => by
            have := hfr r z
            have h3 := hls r z
            rw [q, hd] at h3
            injection h3 with h3
            injection h3 with h3
            rw [List.map_eq_nil_iff] at h3
            rw [h3] at htp
            unfold TupsAt at htp
            cases htp
            exact absurd z List.not_mem_nil
          rw [upd_ne z2, upd_ne (ne_of_none e htp1), upd_ne (ne_of_none e hl)]
          exact e
        · rw [List.mem_singleton.mp z]
          rw [upd_ne (Ne.symm Dl), upd_ne (Ne.symm tl)]
          exact upd_same
      · rcases List.mem_append.mp hr with z | z
        · exact hfr r z
        · rw [List.mem_singleton.mp z]
          exact sm.free hl
  rintro H4 ⟨zs, tps, sm4, hd4, hnm, had, htp, hls, hfr⟩
  rw [List.length_map, List.take_length] at hnm
  refine ⟨D, tps, kvsOf zs, rfl, .inl (.inl hd4), htp.pairs, fun N hN => ?_⟩
  rw [mergeK_rows0 (by rw [hnm]; exact nsn)]
  have s5 : Same H4 (upd H4 N (.dK (kvsOf zs))) := snew hN
  have hN5 : upd H4 N (.dK (kvsOf zs)) N = some (.dK (kvsOf zs)) := upd_same
  generalize upd H4 N (.dK (kvsOf zs)) = H5 at s5 hN5
  have s35 : Same H3 H5 := sm4.trans s5
  have hp5 : PotAt H5 p (n + 1 + (1 + i) + 1) := by
    obtain ⟨x, y, z, e, r⟩ := hp3
    exact ⟨x, y, z, s35 _ _ e, r⟩
  have lenz : zs.length = ns.length := by rw [← hnm, List.length_map]
  have lm : (ns.map V.str).length = 1 + i := by rw [List.length_map, le2]
  have near5 : Near H5 N ns zs fun _ => [] := ⟨hN5, hnm, had, fun v r hr => s5 _ _ (hls r (List.mem_of_getElem? hr))⟩
  -- the loop
  refine ⟨_, rfl, NS, _, rfl, .inl (.inl (.inl (s35 _ _ hNS3))), 1, (((ns.map V.str).length : Nat) : Int), rfl, by rw [lm]; omega, ?_⟩
  refine for_range (lo := 1) (n := ((((ns.map V.str).length : Nat) : Int) - 1).toNat) (fun j σ' H' => ∃ v5 v6 v7 adj, σ' = [some (.ref p), some (.int m), some (.ref NS), some (.int w), some (.ref N), v5, v6, v7, none] ∧ Kp p H3 H' ∧ PotAt H' p (n + 1 + (1 + i) + 1 + 2 * j) ∧
    Near H' N ns zs adj ∧ Gr j adj) ⟨_, _, _, _, rfl, Kp.same s35, hp5, near5, Gr.zero⟩ ?_ ?_
  · rintro i' σ' H' hi ⟨v5, v6, v7, adj, rfl, k, hp, near, g⟩
    rw [lm] at hi
    have hi' : i' < i := by omega
    have hNS' : H' NS = some (.lst (ns.map V.str)) := k _ _ NSp hNS3
    refine seq_asg (fun v H1 => ∃ b : Nat, v = .int b ∧ b ≤ i' ∧ Kp p H' H1 ∧ PotAt H1 p (n + 1 + (1 + i) + 1 + 2 * i' + 1)) (fun Q' hQ' => ?_) ?_
    · refine ⟨_, rfl, _, _, rfl, rfl, _, rfl, p, 3, _, rfl, hp, by omega, by decide, by decide, fun H8 j' hp8 only8 j0' j1' => ?_⟩
      refine ⟨_, _, rfl, rfl, _, _, rfl, hQ' _ _ ⟨(if (1 + (i' : Int) - 1 - j') > 0 then 1 + (i' : Int) - 1 - j' else 0).toNat, ?_, by split <;> omega, Kp.of only8, hp8⟩⟩
      rw [Int.toNat_of_nonneg (by split <;> omega)]
    rintro _ G1 ⟨b, rfl, bl, kb, hpb⟩
    refine seq_asg (fun v H1 => ∃ a : Nat, v = .int a ∧ a ≤ i' ∧ Kp p H' H1 ∧ PotAt H1 p (n + 1 + (1 + i) + 1 + 2 * (i' + 1))) (fun Q' hQ' => ?_) ?_
    · refine ⟨_, rfl, _, _, rfl, rfl, _, rfl, _, rfl, p, _, _, rfl, hpb, by omega, by omega, by omega, fun H7 j hp7 only7 j0 j1 => ?_⟩
      refine ⟨_, rfl, by show 4 ≤ sizeLine; decide, fun L hL => ?_⟩
      have k9 : Kp p H' (upd H7 L (.lst [.int (1 + (i' : Int) - 1), .int 0, .int j, .int (b : Int)])) := kb.trans ((Kp.of only7).trans (Kp.new hL))
      have hp9 : PotAt (upd H7 L (.lst [.int (1 + (i' : Int) - 1), .int 0, .int j, .int (b : Int)])) p (n + 1 + (1 + i) + 1 + 2 * (i' + 1)) := (hp7.upd (Ne.symm (hp7.ne hL))).mono (by omega)
      have at_ : ∃ a : Nat, atI [V.int (1 + (i' : Int) - 1), .int 0, .int j, .int (b : Int)] w = some (.int a) ∧ a ≤ i' := by
        have ww : w = 0 ∨ w = 1 ∨ w = 2 ∨ w = 3 := by omega
        rcases ww with rfl | rfl | rfl | rfl
        · exact ⟨i', congrArg (fun z => some (V.int z)) (show (1 + (i' : Int) - 1) = i' by omega), Nat.le_refl _⟩
        · exact ⟨0, rfl, Nat.zero_le _⟩
        · refine ⟨j.toNat, ?_, by omega⟩
          rw [Int.toNat_of_nonneg j0]
          rfl
        · exact ⟨b, rfl, bl⟩
      obtain ⟨a, ea, al⟩ := at_
      exact ⟨_, rfl, L, _, _, _, rfl, rfl, .inl (.inl upd_same), ea, hQ' _ _ ⟨a, rfl, al, k9, hp9⟩⟩
    rintro v H1 ⟨a, rfl, al, k1', hp1'⟩
    have near1 := near.keep hp k1'
    have hNS1 : H1 NS = some (.lst (ns.map V.str)) := k1' _ _ NSp hNS'
    have ek : (1 : Int) + (i' : Int) = ((i' + 1 : Nat) : Int) := by omega
    have kl : i' + 1 < ns.length := by omega
    have all' : a < ns.length := by omega
    obtain ⟨r, hr, hrm, er⟩ := near1.row kl
    have lk := near1.at_ _ r hr
    have sz : ∀ v, (((adj v).map (nmAt ns)).map V.str).length < sizeLine := fun v => by
      rw [List.length_map, List.length_map, sizeLine_eq]
      have := OkTree.deg.nodup_sub (xs := (adj v).map (nmAt ns)) (ys := ns) (okTree_of.nd_map (g.nd v) fun a ha b hb e => nmAt_inj nsn (by have := g.le _ _ ha; omega) (by have := g.le _ _ hb; omega) e) fun y hy => by
        obtain ⟨u, hu, e⟩ := List.mem_map.mp hy
        rw [← e]
        exact nmAt_mem (by have := g.le _ _ hu; omega)
      rw [List.length_map] at this
      omega
    refine ⟨_, rfl, _, rfl, _, rfl, NS, _, _, _, rfl, rfl, .inl (.inl hNS1), by rw [ek]; exact at_nm kl, N, .ref r.2.1, rfl, er ▸ near1.get nsn hrm, .inl ⟨rfl, _, .inl (.inl lk)⟩, _, rfl, _, rfl, NS, _, _, _, rfl, rfl, .inl (.inl hNS1), at_nm all', r.2.1, _, _, rfl, rfl, lk, sz _, ?_⟩
    have near2 := near1.add (u := a) hr
    have rNS : NS ≠ r.2.1 := fun z => by
      have h1 := (hls r hrm)
      have h2 := hfr r hrm
      rw [← z, hNS3] at h2
      cases h2
    have rp : r.2.1 ≠ p := hp1'.ne' lk names_ne_pot
    have hNS2 : upd H1 r.2.1 (.lst (((adj (i' + 1)).map (nmAt ns)).map V.str ++ [.str (nmAt ns a)])) NS = some (.lst (ns.map V.str)) := by
      rw [upd_ne rNS]
      exact hNS1
    have hp2' := hp1'.upd (o := .lst (((adj (i' + 1)).map (nmAt ns)).map V.str ++ [.str (nmAt ns a)])) (Ne.symm rp)
    have k2' : Kp p H3 (upd H1 r.2.1 (.lst (((adj (i' + 1)).map (nmAt ns)).map V.str ++ [.str (nmAt ns a)]))) := (k.trans k1').put (hfr r hrm)
    generalize upd H1 r.2.1 (.lst (((adj (i' + 1)).map (nmAt ns)).map V.str ++ [.str (nmAt ns a)])) = H2' at near2 hNS2 hp2' k2'
    obtain ⟨r2, hr2, hrm2, er2⟩ := near2.row all'
    have lk2 := near2.at_ _ r2 hr2
    have ne : a ≠ i' + 1 := by omega
    rw [if_neg ne] at lk2
    refine ⟨_, rfl, _, rfl, _, rfl, NS, _, _, _, rfl, rfl, .inl (.inl hNS2), at_nm all', N, .ref r2.2.1, rfl, er2 ▸ near2.get nsn hrm2, .inl ⟨rfl, _, .inl (.inl lk2)⟩, _, rfl, _, rfl, NS, _, _, _, rfl, rfl, .inl (.inl hNS2), by rw [ek]; exact at_nm kl, r2.2.1, _, _, rfl, rfl, lk2, sz _, ?_⟩
    have near3 := near2.add (u := i' + 1) hr2
    have r2p : r2.2.1 ≠ p := hp2'.ne' lk2 names_ne_pot
    refine ⟨_, _, _, addE adj (i' + 1) a, rfl, k2'.put (hfr r2 hrm2), hp2'.upd (Ne.symm r2p), ?_, g.step al⟩
    rw [if_neg ne] at near3
    have eadj : (fun w => if w = a then (if w = i' + 1 then adj w ++ [a] else adj w) ++ [i' + 1] else if w = i' + 1 then adj w ++ [a] else adj w) = addE adj (i' + 1) a := by
      funext w
      unfold addE
      by_cases e1 : w = i' + 1
      · rw [if_neg (fun z => ne (z.symm.trans e1)), if_pos e1, if_pos e1]
      · rw [if_neg e1, if_neg e1]
    rw [eadj] at near3
    exact near3
  · rintro σ' H' ⟨v5, v6, v7, adj, rfl, k, hp, near, g⟩
    have em : ((((ns.map V.str).length : Nat) : Int) - 1).toNat = i := by rw [lm]; omega
    rw [em] at hp g
    have hNS' : H' NS = some (.lst (ns.map V.str)) := k _ _ NSp hNS3
    refine ⟨_, rfl, NS, rfl, ⟨_, .inl (.inl hNS')⟩, fun D2 hD2 => ?_⟩
    have D2p : D2 ≠ p := hp.ne hD2
    refine lc_list (K := K) (xs := ns.map V.str) (fun i H'' => ∃ (t : List Row) (tps : List Addr), Same H' H'' ∧ H'' D2 = some (.lst (tps.map V.ref)) ∧ t.map (·.1) = ns.take i ∧ TupsAt H'' tps t ∧ (∀ r ∈ t, H'' r.2.1 = some (.lst (r.2.2.map V.str))) ∧ (∀ r ∈ t, H' r.2.1 = none ∧ r.2.1 ≠ D2) ∧
      (∀ r ∈ t, r.2.2.Perm ((adj (ns.idxOf r.1)).map (nmAt ns)) ∧ sortedS r.2.2 = true) ∧ (t.map (·.2.1)).Nodup)
      ⟨[], [], snew hD2, upd_same, rfl, .nil, fun r hr => absurd hr List.not_mem_nil, fun r hr => absurd hr List.not_mem_nil, fun r hr => absurd hr List.not_mem_nil, .nil⟩ (fun i H'' _ ⟨_, _, sm, _⟩ => .inl (.inl (sm _ _ hNS'))) ?_ ?_
    · rintro i x H'' hx ⟨t, tps, sm, hd, hnm2, htp', hls', hfr', hpm', hnd'⟩
      rw [List.getElem?_map] at hx
      cases hy : ns[i]? with
      | none => rw [hy] at hx; cases hx
      | some y =>
        rw [hy] at hx
        cases hx
        have hi : i < ns.length := (List.getElem?_eq_some_iff.mp hy).1
        have hyns : y ∈ ns := List.mem_of_getElem? hy
        have lidx := List.idxOf_lt_length_of_mem hyns
        have near9 : Near H'' N ns zs adj := ⟨sm _ _ near.d, near.nm, near.ad, fun v r hr => sm _ _ (near.at_ v r hr)⟩
        obtain ⟨r, hr, hrm, er⟩ := near9.row lidx
        have ey : nmAt ns (ns.idxOf y) = y := by rw [nmAt_eq lidx]; exact List.getElem_idxOf lidx
        rw [ey] at er
        refine ⟨rfl, _, rfl, _, rfl, _, rfl, N, _, rfl, er ▸ near9.get nsn hrm, r.2.1, (adj (ns.idxOf y)).map (nmAt ns), rfl, .inl (.inl (near9.at_ _ r hr)), ?_, fun ys l pm so hl => ⟨by show 2 ≤ sizeLine; decide, fun tp htp0 => ?_⟩⟩
        · have := OkTree.deg.nodup_sub (xs := (adj (ns.idxOf y)).map (nmAt ns)) (ys := ns) (okTree_of.nd_map (g.nd _) fun a ha b hb e => nmAt_inj nsn (by have := g.le _ _ ha; omega) (by have := g.le _ _ hb; omega) e) fun y hy => by
            obtain ⟨u, hu, e⟩ := List.mem_map.mp hy
            rw [← e]
            exact nmAt_mem (by have := g.le _ _ hu; omega)
          omega
        have tl : tp ≠ l := fun z => by rw [z, upd_same] at htp0; cases htp0
        have htp1 : H'' tp = none := by rw [upd_ne tl] at htp0; exact htp0
        have Dl : D2 ≠ l := ne_of_none hd hl
        have Dt : D2 ≠ tp := ne_of_none hd htp1
        have len : tps.length = i := by
          have e := congrArg List.length hnm2
          rw [List.length_map, List.length_take] at e
          rw [htp'.len]
          omega
        refine ⟨tps.map V.ref, by rw [upd_ne Dt, upd_ne Dl]; exact hd, by rw [List.length_map, len, sizeLine_eq]; omega, t ++ [(y, l, ys)], tps ++ [tp], fun b o e => ?_, ?_, ?_, ?_, fun r' hr' => ?_, fun r' hr' => ?_, fun r' hr' => ?_, ?_⟩
        · rw [upd_ne (ne_of_none e hD2), upd_ne (ne_of_none (sm _ _ e) htp1), upd_ne (ne_of_none (sm _ _ e) hl)]
          exact sm _ _ e
        · rw [upd_same, List.map_append]
          rfl
        · rw [List.map_append, hnm2, List.take_succ, hy]
          rfl
        · refine TupsAt.snoc (htp'.keep fun b xs e => ?_) ?_
          · have z2 : b ≠ D2 := fun z => by rw [z, hd] at e; cases e
            rw [upd_ne z2, upd_ne (ne_of_none e htp1), upd_ne (ne_of_none e hl)]
            exact e
          · rw [upd_ne (Ne.symm Dt)]
            exact upd_same
        · rcases List.mem_append.mp hr' with z | z
          · have e := hls' r' z
            rw [upd_ne (hfr' r' z).2, upd_ne (ne_of_none e htp1), upd_ne (ne_of_none e hl)]
            exact e
          · rw [List.mem_singleton.mp z, upd_ne (Ne.symm Dl), upd_ne (Ne.symm tl)]
            exact upd_same
        · rcases List.mem_append.mp hr' with z | z
          · exact hfr' r' z
          · rw [List.mem_singleton.mp z]
            exact ⟨sm.free hl, Ne.symm Dl⟩
        · rcases List.mem_append.mp hr' with z | z
          · exact hpm' r' z
          · rw [List.mem_singleton.mp z]
            exact ⟨pm, so⟩
        · rw [List.map_append]
          refine List.nodup_append.mpr ⟨hnd', by simp, fun a ha b hb e => ?_⟩
          obtain ⟨r2, hr2, er2⟩ := List.mem_map.mp ha
          have h1 := hls' r2 hr2
          rw [er2, e, show b = l from List.mem_singleton.mp hb, hl] at h1
          cases h1
    · rintro H'' ⟨t, tps, sm, hd, hnm2, htp', hls', hfr', hpm', hnd'⟩
      rw [List.length_map, List.take_length] at hnm2
      refine ⟨D2, tps, kvsOf t, rfl, .inl (.inl hd), htp'.pairs, fun d hd2 => ?_⟩
      rw [mergeK_rows0 (by rw [hnm2]; exact nsn)]
      have kk : Kp p H H'' := k3.trans (k.trans (Kp.same sm))
      have hpE : PotAt H'' p (n + 300) := by
        obtain ⟨x, y, z, e, r⟩ := hp.mono (m := n + 300) (by omega)
        exact ⟨x, y, z, sm _ _ e, r⟩
      refine hQ _ d t (kk.put (kk.free hd2 (hpE.ne hd2))) (kk.free hd2 (hpE.ne hd2)) upd_same (fun r hr => by rw [upd_ne (ne_of_none (hls' r hr) hd2)]; exact hls' r hr) (okTree_of g (by omega) (by omega) nsn nsok (by rw [hnm2]) hpm') ?_ (fun r hr => nsp _ (by rw [← hnm2]; exact List.mem_map.mpr ⟨r, hr, rfl⟩)) hnd' (fun r hr => (k3.trans k).free (hfr' r hr).1 (hp.ne (hfr' r hr).1)) (hpE.upd (Ne.symm (hpE.ne hd2)))
      have := congrArg List.length hnm2
      rw [List.length_map] at this
      omega
end
end A8
set_option Elab.async false
set_option linter.all false
set_option maxRecDepth 100000
set_option maxHeartbeats 4000000
namespace A8
open PySem PySem.Spec PyProof.Rows L2 AL
open GxR (TabB TabG Tabbed)
abbrev sCheckTree : Stmt := top 12
theorem scCheckTree : FnScope ["tree"] ["tree"] (defScope sCheckTree) := ⟨rfl, rfl, rfl, by decide +kernel, rfl, by decide +kernel, by decide +kernel⟩
def spCheckTree (Ps : List Addr) : Sp := fun vs H Q _ => ∃ (d : Addr) (t : List Row), vs = [.ref d] ∧ H d = some (.dK (kvsOf t)) ∧ RowsAt H t ∧ OkTree t ∧ Tabs Ps H ∧ ∀ H', Ext Ps H H' → Q .non H'
theorem inj_nd {α β : Type} {f : α → β} : ∀ {l : List α}, (l.map f).Nodup → ∀ {a b : α}, a ∈ l → b ∈ l → f a = f b → a = b
  | c :: l, nd, a, b, ha, hb, e => by
    rw [List.map_cons, List.nodup_cons] at nd
    rcases List.mem_cons.mp ha with h1 | h1 <;> rcases List.mem_cons.mp hb with h2 | h2
    · rw [h1, h2]
    · exact (nd.1 (by rw [← h1, e]; exact List.mem_map.mpr ⟨b, h2, rfl⟩)).elim
    · exact (nd.1 (by rw [← h2, ← e]; exact List.mem_map.mpr ⟨a, h1, rfl⟩)).elim
    · exact inj_nd nd.2 h1 h2 e
theorem nmEqK {t : List Row} : (kvsOf t).map (·.1) = (t.map (·.1)).map Sum.inr := by unfold kvsOf; rw [List.map_map, List.map_map]; rfl
theorem Ext.none {Ps : List Addr} {H H1 : Hp} (e : Ext Ps H H1) {q : Addr} (h : H1 q = Option.none) (ht : Tabs Ps H) : H q = Option.none := by
  cases z : H q with
  | none => rfl
  | some o =>
    by_cases m : q ∈ Ps
    · obtain ⟨ps, e1, _⟩ := e.tabs ht q m
      rw [h] at e1
      cases e1
    · have := e.kp q o z m
      rw [h] at this
      cases this
theorem kvsOf_none {vt : List Row} {x : Str} (h : x ∉ vt.map (·.1)) : valV (kvsOf vt) (Sum.inr x) = Option.none := by
  cases q : valV (kvsOf vt) (Sum.inr x) with
  | none => rfl
  | some v =>
    have hm : (Sum.inr x : Key) ∈ (kvsOf vt).map (·.1) := valV_in q
    rw [kvsOf, List.map_map] at hm
    obtain ⟨e, he, z⟩ := List.mem_map.mp hm
    exact (h (List.mem_map.mpr ⟨e, he, Sum.inr.inj z⟩)).elim
/-- the row of a name anew -/
def rowPut (zs : List Row) (v : Str) (p : Addr) (ws : List Str) : List Row := zs.map fun r => if r.1 = v then (r.1, p, ws) else r
theorem rowPut_nm (zs : List Row) (v : Str) (p : Addr) (ws : List Str) : (rowPut zs v p ws).map (·.1) = zs.map (·.1) := by
  unfold rowPut
  rw [List.map_map]
  refine List.map_congr_left fun r _ => ?_
  show (if r.1 = v then (r.1, p, ws) else r).1 = r.1
  split <;> rfl
theorem rowPut_kv {zs : List Row} {v : Str} {p : Addr} {ws : List Str} (h : v ∈ zs.map (·.1)) : putK (kvsOf zs) (Sum.inr v) (.ref p) = kvsOf (rowPut zs v p ws) := by
  have any : ((kvsOf zs).any fun kv => decide (kv.1 = Sum.inr v)) = true := by
    obtain ⟨r, hr, e⟩ := List.mem_map.mp h
    exact List.any_eq_true.mpr ⟨(Sum.inr r.1, .ref r.2.1), List.mem_map.mpr ⟨r, hr, rfl⟩, decide_eq_true (congrArg Sum.inr e)⟩
  unfold putK
  rw [if_pos any]
  unfold kvsOf rowPut
  rw [List.map_map, List.map_map]
  refine List.map_congr_left fun r _ => ?_
  show (if (Sum.inr r.1 : Key) = Sum.inr v then ((Sum.inr r.1 : Key), V.ref p) else ((Sum.inr r.1 : Key), V.ref r.2.1)) = (Sum.inr (if r.1 = v then (r.1, p, ws) else r).1, .ref (if r.1 = v then (r.1, p, ws) else r).2.1)
  by_cases e : r.1 = v
  · rw [if_pos e, if_pos (congrArg Sum.inr e)]
  · rw [if_neg e, if_neg fun z => e (Sum.inr.inj z)]
theorem rowPut_mem {zs : List Row} {v : Str} {p : Addr} {ws : List Str} {r : Row} (h : r ∈ rowPut zs v p ws) : (r.1 = v ∧ r.2.1 = p ∧ r.2.2 = ws) ∨ (r.1 ≠ v ∧ r ∈ zs) := by
  obtain ⟨s, hs, e⟩ := List.mem_map.mp h
  by_cases q : s.1 = v
  · rw [if_pos q] at e
    subst e
    exact .inl ⟨q, rfl, rfl⟩
  · rw [if_neg q] at e
    subst e
    exact .inr ⟨q, hs⟩
theorem rowPut_ad : ∀ {zs : List Row} {v : Str} {p : Addr} {ws : List Str}, (zs.map (·.1)).Nodup → (zs.map (·.2.1)).Nodup → (∀ r ∈ zs, r.2.1 ≠ p) → ((rowPut zs v p ws).map (·.2.1)).Nodup
  | [], _, _, _, _, _, _ => .nil
  | a :: zs, v, p, ws, n1, n2, f => by
    rw [List.map_cons] at n1 n2
    have m1 := List.nodup_cons.mp n1
    have m2 := List.nodup_cons.mp n2
    show ((if a.1 = v then (a.1, p, ws) else a).2.1 :: (rowPut zs v p ws).map (·.2.1)).Nodup
    refine List.nodup_cons.mpr ⟨fun z => ?_, rowPut_ad m1.2 m2.2 fun r hr => f r (List.mem_cons_of_mem _ hr)⟩
    obtain ⟨r, hr, e⟩ := List.mem_map.mp z
    rcases rowPut_mem hr with ⟨h1, h2, _⟩ | ⟨h1, h2⟩
    · by_cases q : a.1 = v
      · have hn : v ∈ zs.map (·.1) := by
          rw [← rowPut_nm zs v p ws]
          exact List.mem_map.mpr ⟨r, hr, h1⟩
        exact m1.1 (by rw [q]; exact hn)
      · rw [if_neg q, h2] at e
        exact f a List.mem_cons_self e.symm
    · by_cases q : a.1 = v
      · rw [if_pos q] at e
        exact f r (List.mem_cons_of_mem _ h2) e
      · rw [if_neg q] at e
        exact m2.1 (List.mem_map.mpr ⟨r, h2, e⟩)
section
variable {P : Program} {w : World} {K : PySem.W.Frag} {mg : Str → Option Value} {base : Heap} {f c p1 : Addr} {fd : FuncData} {Ps : List Addr}
theorem ok_checkTree (F : FunD K "check_tree" "check_tree" (defArgs sCheckTree) (defBody sCheckTree) (defScope sCheckTree) [] [] f fd) (cT : Cal P w K mg base 5 "is_tree" (spIsTree Ps)) : FnOk P w K mg base CX0 6 f fd ["tree"] (spCheckTree Ps) := by
  refine F.ok scCheckTree (fun vs H Q E h => ?_) ?_
  · obtain ⟨d, t, rfl, _⟩ := h
    rfl
  intro cdv A outer s H vs Q E hr h
  refine ⟨_, PSs.nox (pss_one (ps_if (pt_not (pt_truth (pe_c cT hr (by decide) rfl (pa_cons (pv 0) pa_nil)) (by intro _; rfl))) pss_never pss_nil)), ?_⟩
  obtain ⟨d, t, rfl, hd, hR, ok, ht, hQ⟩ := h
  exact ⟨_, rfl, d, t, rfl, hd, hR, ok, ht, fun H' e => ⟨true, rfl, iteF (hQ H' e)⟩⟩
end
end A8
set_option Elab.async false
set_option linter.all false
set_option maxRecDepth 100000
set_option maxHeartbeats 4000000
namespace A8
open PySem PySem.Spec PyProof.Rows L2 AL
/-! ### a tree with one more leaf -/
def Adj (t : List Row) (a b : Str) : Prop := ∃ s ∈ t, s.1 = a ∧ b ∈ s.2.2
theorem OkTree.adjSym {t : List Row} (ok : OkTree t) {a b : Str} (h : Adj t a b) : Adj t b a := by
  obtain ⟨s, hs, rfl, hb⟩ := h
  obtain ⟨r, hr, rfl⟩ := ok.nbs s hs b hb
  exact ⟨r, hr, rfl, ok.sym s hs r hr hb⟩
theorem OkTree.adjIn {t : List Row} (ok : OkTree t) {s : Row} (hs : s ∈ t) {b : Str} : Adj t s.1 b ↔ b ∈ s.2.2 := by
  constructor
  · rintro ⟨r, hr, e, h⟩
    rw [ok.one hr hs e] at h
    exact h
  · exact fun h => ⟨s, hs, rfl, h⟩
structure Join (t : List Row) (x v : Str) (lt : List Row) : Prop where
  nm : (lt.map (·.1)).Perm (x :: t.map (·.1))
  row : ∀ r ∈ lt, (r.1 = x ∧ r.2.2 = [v]) ∨ ∃ s ∈ t, s.1 = r.1 ∧ ((r.1 ≠ v ∧ r.2.2 = s.2.2) ∨ (r.1 = v ∧ r.2.2.Perm (s.2.2 ++ [x]) ∧ sortedS r.2.2 = true))
def degOf (t : List Row) (a : Str) : Nat := match t.find? (fun r => decide (r.1 = a)) with
  | some r => r.2.2.length
  | none => 0
theorem OkTree.degAt {t : List Row} (ok : OkTree t) {s : Row} (hs : s ∈ t) : degOf t s.1 = s.2.2.length := by
  unfold degOf
  cases q : t.find? (fun r => decide (r.1 = s.1)) with
  | none =>
    have := List.find?_eq_none.mp q s hs
    simp at this
  | some r =>
    have h1 := List.find?_some q
    have h2 := List.mem_of_find?_eq_some q
    rw [ok.one h2 hs (by simpa using h1)]
theorem sum_one : ∀ {t : List Row} {v : Str}, (t.map (·.1)).Nodup → (t.map fun s => s.2.2.length + if s.1 = v then 1 else 0).sum = (t.map fun s => s.2.2.length).sum + if v ∈ t.map (·.1) then 1 else 0
  | [], v, _ => by simp
  | a :: t, v, nd => by
    rw [List.map_cons] at nd
    have n2 := List.nodup_cons.mp nd
    have ih := sum_one (v := v) n2.2
    rw [List.map_cons, List.map_cons, List.sum_cons, List.sum_cons, ih]
    by_cases e : a.1 = v
    · have no : v ∉ t.map (·.1) := by rw [← e]; exact n2.1
      have yes : v ∈ (a :: t).map (·.1) := by rw [List.map_cons, ← e]; exact List.mem_cons_self
      rw [if_pos e, if_neg no, if_pos yes]
      omega
    · by_cases q : v ∈ t.map (·.1)
      · have yes : v ∈ (a :: t).map (·.1) := by rw [List.map_cons]; exact List.mem_cons_of_mem _ q
        rw [if_neg e, if_pos q, if_pos yes]
        omega
      · have no : v ∉ (a :: t).map (·.1) := by
          rw [List.map_cons]
          intro z
          rcases List.mem_cons.mp z with z | z
          · exact e z.symm
          · exact q z
        rw [if_neg e, if_neg q, if_neg no]
        omega
theorem perm_sum' {l k : List Nat} (h : l.Perm k) : l.sum = k.sum := by
  induction h with
  | nil => rfl
  | cons x _ ih => rw [List.sum_cons, List.sum_cons, ih]
  | swap x y l => simp only [List.sum_cons]; omega
  | trans _ _ i1 i2 => exact i1.trans i2
section
variable {t lt kt : List Row} {x v : Str}
theorem Join.mem (j : Join t x v lt) (ok : OkTree t) (hx : x ∉ t.map (·.1)) (hv : v ∈ t.map (·.1)) {r : Row} (hr : r ∈ lt) (y : Str) : y ∈ r.2.2 ↔ Adj t r.1 y ∨ (r.1 = x ∧ y = v) ∨ (r.1 = v ∧ y = x) := by
  have xv : x ≠ v := fun z => hx (by rw [z]; exact hv)
  rcases j.row r hr with ⟨e1, e2⟩ | ⟨s, hs, e, h⟩
  · rw [e2, List.mem_singleton]
    constructor
    · exact fun h => .inr (.inl ⟨e1, h⟩)
    · rintro (⟨s, hs, es, _⟩ | ⟨_, h⟩ | ⟨h, _⟩)
      · exact (hx (List.mem_map.mpr ⟨s, hs, es.trans e1⟩)).elim
      · exact h
      · exact (xv (e1.symm.trans h)).elim
  · have rx : r.1 ≠ x := fun z => hx (List.mem_map.mpr ⟨s, hs, e.trans z⟩)
    rw [← e, ok.adjIn hs, e]
    rcases h with ⟨nv, h⟩ | ⟨ev, pm, _⟩
    · rw [h]
      constructor
      · exact .inl
      · rintro (h | ⟨h, _⟩ | ⟨h, _⟩)
        · exact h
        · exact (rx h).elim
        · exact (nv h).elim
    · rw [pm.mem_iff, List.mem_append, List.mem_singleton]
      constructor
      · rintro (h | h)
        · exact .inl h
        · exact .inr (.inr ⟨ev, h⟩)
      · rintro (h | ⟨h, _⟩ | ⟨_, h⟩)
        · exact .inl h
        · exact (rx h).elim
        · exact .inr h
theorem Join.of (j : Join t x v lt) {a : Str} (h : a = x ∨ a ∈ t.map (·.1)) : ∃ r ∈ lt, r.1 = a := by
  have hm : a ∈ lt.map (·.1) := j.nm.symm.subset (List.mem_cons.mpr h)
  obtain ⟨r, hr, e⟩ := List.mem_map.mp hm
  exact ⟨r, hr, e⟩
theorem Join.inn (j : Join t x v lt) {r : Row} (hr : r ∈ lt) : r.1 = x ∨ r.1 ∈ t.map (·.1) := List.mem_cons.mp (j.nm.subset (List.mem_map.mpr ⟨r, hr, rfl⟩))
theorem Join.len (j : Join t x v lt) : lt.length = t.length + 1 := by
  have := j.nm.length_eq
  simp only [List.length_map, List.length_cons] at this
  exact this
theorem Join.ok (j : Join t x v lt) (ok : OkTree t) (nx : NameOk x) (hx : x ∉ t.map (·.1)) (hv : v ∈ t.map (·.1)) (h40 : t.length + 1 ≤ 40) : OkTree lt := by
  have xv : x ≠ v := fun z => hx (by rw [z]; exact hv)
  have len := j.len
  have mem := fun {r : Row} (hr : r ∈ lt) y => j.mem ok hx hv hr y
  have nds : (x :: t.map (·.1)).Nodup := List.nodup_cons.mpr ⟨hx, ok.nodup⟩
  refine ⟨by omega, by omega, fun r hr => ?_, j.nm.symm.nodup nds, fun r hr y hy => ?_, fun r hr hy => ?_, fun r hr => ?_, fun r hr s hs hy => ?_, ?_, fun S hS cl => ?_⟩
  · rcases j.inn hr with e | e
    · rw [e]; exact nx
    · obtain ⟨s, hs, es⟩ := List.mem_map.mp e
      rw [← es]
      exact ok.names s hs
  · rcases (mem hr y).mp hy with ⟨s, hs, _, hb⟩ | ⟨_, h⟩ | ⟨_, h⟩
    · obtain ⟨q, hq, eq⟩ := ok.nbs s hs y hb
      exact j.of (.inr (List.mem_map.mpr ⟨q, hq, eq⟩))
    · exact j.of (.inr (h ▸ hv))
    · exact j.of (.inl h)
  · rcases (mem hr _).mp hy with ⟨s, hs, es, hb⟩ | ⟨h1, h2⟩ | ⟨h1, h2⟩
    · rw [← es] at hb
      exact ok.self s hs hb
    · exact xv (h1.symm.trans h2)
    · exact xv (h2.symm.trans h1)
  · rcases j.row r hr with ⟨_, e⟩ | ⟨s, hs, e, h⟩
    · rw [e]
      exact ⟨rfl, by simp⟩
    · rcases h with ⟨_, h⟩ | ⟨_, pm, so⟩
      · rw [h]
        exact ok.asc s hs
      · refine ⟨so, pm.symm.nodup (List.nodup_append.mpr ⟨(ok.asc s hs).2, by simp, fun a ha b hb q => ?_⟩)⟩
        rw [List.mem_singleton.mp hb] at q
        obtain ⟨u, hu, eu⟩ := ok.nbs s hs a ha
        exact hx (List.mem_map.mpr ⟨u, hu, eu.trans q⟩)
  · refine (mem hs _).mpr ?_
    rcases (mem hr _).mp hy with h | ⟨h1, h2⟩ | ⟨h1, h2⟩
    · exact .inl (ok.adjSym h)
    · exact .inr (.inr ⟨h2, h1⟩)
    · exact .inr (.inl ⟨h2, h1⟩)
  · have e1 : lt.map (fun r => r.2.2.length) = (lt.map (·.1)).map fun a => if a = x then 1 else degOf t a + if a = v then 1 else 0 := by
      rw [List.map_map]
      refine List.map_congr_left fun r hr => ?_
      show r.2.2.length = if r.1 = x then 1 else degOf t r.1 + if r.1 = v then 1 else 0
      rcases j.row r hr with ⟨e, h⟩ | ⟨s, hs, e, h⟩
      · rw [if_pos e, h]
        rfl
      · have rx : r.1 ≠ x := fun z => hx (List.mem_map.mpr ⟨s, hs, e.trans z⟩)
        rw [if_neg rx, ← e, ok.degAt hs, e]
        rcases h with ⟨nv, h⟩ | ⟨ev, pm, _⟩
        · rw [if_neg nv, h]
          rfl
        · rw [if_pos ev, pm.length_eq, List.length_append]
          rfl
    have e2 := perm_sum' (j.nm.map fun a => if a = x then 1 else degOf t a + if a = v then 1 else 0)
    have e3 : (t.map (·.1)).map (fun a => if a = x then 1 else degOf t a + if a = v then 1 else 0) = t.map fun s => s.2.2.length + if s.1 = v then 1 else 0 := by
      rw [List.map_map]
      refine List.map_congr_left fun s hs => ?_
      show (if s.1 = x then 1 else degOf t s.1 + if s.1 = v then 1 else 0) = _
      have sx : s.1 ≠ x := fun z => hx (List.mem_map.mpr ⟨s, hs, z⟩)
      rw [if_neg sx, ok.degAt hs]
    have e4 := sum_one (v := v) ok.nodup
    rw [if_pos hv] at e4
    rw [List.map_cons, List.sum_cons, if_pos rfl, e3, e4] at e2
    have := ok.ends
    rw [e1, e2, len]
    omega
  · have down : (∀ r ∈ t, S r.1 → ∀ y ∈ r.2.2, S y) := fun r hr h y hy => by
      obtain ⟨q, hq, eq⟩ := j.of (.inr (List.mem_map.mpr ⟨r, hr, rfl⟩))
      exact cl q hq (by rw [eq]; exact h) y ((mem hq y).mpr (.inl (by rw [eq]; exact ⟨r, hr, rfl, hy⟩)))
    obtain ⟨rv, hrv, ev⟩ := List.mem_map.mp hv
    have sv : ∃ r ∈ t, S r.1 := by
      obtain ⟨r, hr, h⟩ := hS
      rcases j.inn hr with e | e
      · exact ⟨rv, hrv, by rw [ev]; exact cl r hr h v ((mem hr v).mpr (.inr (.inl ⟨e, rfl⟩)))⟩
      · obtain ⟨s, hs, es⟩ := List.mem_map.mp e
        exact ⟨s, hs, by rw [es]; exact h⟩
    have all := ok.conn S sv down
    intro s hs
    rcases j.inn hs with e | e
    · obtain ⟨q, hq, eq⟩ := j.of (.inr hv)
      rw [e]
      exact cl q hq (by rw [eq, ← ev]; exact all rv hrv) x ((mem hq x).mpr (.inr (.inr ⟨eq, rfl⟩)))
    · obtain ⟨u, hu, eu⟩ := List.mem_map.mp e
      rw [← eu]
      exact all u hu
/-- what is told of each: by its name and its neighbours -/
theorem rows_eq : ∀ {lt kt : List Row}, lt.map (·.1) = kt.map (·.1) → (∀ r ∈ lt, ∀ s ∈ kt, r.1 = s.1 → r.2.2 = s.2.2) → (lt.map fun r => (r.1, r.2.2)) = kt.map fun r => (r.1, r.2.2)
  | [], [], _, _ => rfl
  | [], _ :: _, h, _ => by simp at h
  | _ :: _, [], h, _ => by simp at h
  | a :: lt, b :: kt, h, f => by
    rw [List.map_cons, List.map_cons] at h
    injection h with h1 h2
    rw [List.map_cons, List.map_cons, rows_eq h2 fun r hr s hs => f r (List.mem_cons_of_mem _ hr) s (List.mem_cons_of_mem _ hs), h1, f a List.mem_cons_self b List.mem_cons_self h1]
/-- sorted by name -/
structure Lf (t : List Row) (x v : Str) (lt : List Row) : Prop extends Join t x v lt where
  so : sortedS (lt.map (·.1)) = true
theorem Lf.same (a : Lf t x v lt) (b : Lf t x v kt) (ok : OkTree t) (hx : x ∉ t.map (·.1)) : (lt.map fun r => (r.1, r.2.2)) = kt.map fun r => (r.1, r.2.2) := by
  have nds : (x :: t.map (·.1)).Nodup := List.nodup_cons.mpr ⟨hx, ok.nodup⟩
  refine rows_eq (sorted_eq a.so (a.nm.symm.nodup nds) b.so (b.nm.symm.nodup nds) fun k => by rw [a.nm.mem_iff, b.nm.mem_iff]) fun r hr s hs e => ?_
  rcases a.row r hr with ⟨e1, h1⟩ | ⟨u, hu, e1, h1⟩ <;> rcases b.row s hs with ⟨e2, h2⟩ | ⟨w, hw, e2, h2⟩
  · rw [h1, h2]
  · exact (hx (List.mem_map.mpr ⟨w, hw, by rw [e2, ← e, e1]⟩)).elim
  · exact (hx (List.mem_map.mpr ⟨u, hu, by rw [e1, e, e2]⟩)).elim
  · have uw : u = w := ok.one hu hw (by rw [e1, e2, e])
    subst uw
    have no : x ∉ u.2.2 := fun z => by
      obtain ⟨q, hq, eq⟩ := ok.nbs u hu x z
      exact hx (List.mem_map.mpr ⟨q, hq, eq⟩)
    have ndx : (u.2.2 ++ [x]).Nodup := List.nodup_append.mpr ⟨(ok.asc u hu).2, by simp, fun a ha b hb q => no (by rw [← List.mem_singleton.mp hb, ← q]; exact ha)⟩
    rcases h1 with ⟨n1, h1⟩ | ⟨n1, p1, s1⟩ <;> rcases h2 with ⟨n2, h2⟩ | ⟨n2, p2, s2⟩
    · rw [h1, h2]
    · exact (n1 (e.trans n2)).elim
    · exact (n2 (e.symm.trans n1)).elim
    · exact sorted_eq s1 (p1.symm.nodup ndx) s2 (p2.symm.nodup ndx) fun k => by rw [p1.mem_iff, p2.mem_iff]
end
end A8
set_option Elab.async false
set_option linter.all false
set_option maxRecDepth 100000
set_option maxHeartbeats 4000000
namespace A8
open PySem PySem.Spec PyProof.Rows L2 AL
/-! ### small data are told in full -/
structure Sm (d : PyData) (k w : Nat) : Prop where
  sh : d.showable = true
  dp : d.depth ≤ k
  le : d.leavesShort 13 = true
  we : d.weight ≤ w
theorem Sm.mono {d : PyData} {k w k' w' : Nat} (h : Sm d k w) (hk : k ≤ k') (hw : w ≤ w') : Sm d k' w' := ⟨h.sh, Nat.le_trans h.dp hk, h.le, Nat.le_trans h.we hw⟩
theorem Sm.str {x : Str} (h : NameOk x) : Sm (.str x) 0 8 := ⟨rfl, Nat.le_refl _, List.all_eq_true.mpr fun c hc => decide_eq_true (by have := (h.2.2 c hc).2; omega), h.2.1⟩
theorem Sm.int {n : Nat} (h : n ≤ 400) : Sm (.int n) 0 9 := by
  have e : ((n : Nat) : Int).natAbs = n := Int.natAbs_natCast n
  have l : n.log2 ≤ 8 := by
    by_cases z : n = 0
    · rw [z]; decide
    · have := (Nat.log2_lt z).mpr (show n < 2 ^ 9 by omega)
      omega
  refine ⟨?_, Nat.le_refl _, ?_, ?_⟩
  · show decide (((n : Nat) : Int).natAbs.log2 < 1920) = true
    rw [e]
    exact decide_eq_true (by omega)
  · show decide ((PyData.shown (.int n)).length ≤ 13) = true
    exact decide_eq_true (PyData.shown_int_le (by rw [e]; omega))
  · show (if ((n : Nat) : Int) == 0 then 0 else ((n : Nat) : Int).natAbs.log2 + 1) ≤ 9
    rw [e]
    split <;> omega
structure SmAll (ds : List PyData) (k w : Nat) : Prop where
  sh : PyData.showableAll ds = true
  dp : PyData.depthAll ds ≤ k
  le : PyData.leavesShortAll 13 ds = true
  we : PyData.weightAll ds ≤ (w + 1) * ds.length
theorem SmAll.of : ∀ {ds : List PyData} {k w : Nat}, (∀ d ∈ ds, Sm d k w) → SmAll ds k w
  | [], k, w, _ => ⟨rfl, Nat.zero_le _, rfl, Nat.zero_le _⟩
  | d :: ds, k, w, h => by
    have a := h d List.mem_cons_self
    have b := SmAll.of fun e he => h e (List.mem_cons_of_mem _ he)
    refine ⟨?_, ?_, ?_, ?_⟩
    · show (d.showable && PyData.showableAll ds) = true
      rw [a.sh, b.sh]; rfl
    · show max d.depth (PyData.depthAll ds) ≤ k
      exact Nat.max_le.mpr ⟨a.dp, b.dp⟩
    · show (d.leavesShort 13 && PyData.leavesShortAll 13 ds) = true
      rw [a.le, b.le]; rfl
    · show d.weight + 1 + PyData.weightAll ds ≤ (w + 1) * (ds.length + 1)
      have := a.we
      have := b.we
      rw [Nat.mul_add]
      omega
theorem SmAll.list {ds : List PyData} {k w : Nat} (h : SmAll ds k w) : Sm (.list ds) (k + 1) ((w + 1) * ds.length) := ⟨h.sh, Nat.succ_le_succ h.dp, h.le, h.we⟩
theorem SmAll.tup {ds : List PyData} {k w : Nat} (h : SmAll ds k w) : Sm (.tuple ds) (k + 1) ((w + 1) * ds.length) := ⟨h.sh, Nat.succ_le_succ h.dp, h.le, h.we⟩
theorem smKv : ∀ {kvs : List (PyData × PyData)} {k w v : Nat}, (∀ q ∈ kvs, Sm q.1 k w ∧ Sm q.2 k v) → PyData.showableKv kvs = true ∧ PyData.depthKv kvs ≤ k ∧ PyData.leavesShortKv 13 kvs = true ∧ PyData.weightKv kvs ≤ (w + v + 2) * kvs.length
  | [], k, w, v, _ => ⟨rfl, Nat.zero_le _, rfl, Nat.zero_le _⟩
  | (x, y) :: r, k, w, v, h => by
    obtain ⟨a, b⟩ := h (x, y) List.mem_cons_self
    obtain ⟨c1, c2, c3, c4⟩ := smKv fun e he => h e (List.mem_cons_of_mem _ he)
    have a1 : x.showable = true := a.sh
    have b1 : y.showable = true := b.sh
    have a2 : x.depth ≤ k := a.dp
    have b2 : y.depth ≤ k := b.dp
    have a3 : x.leavesShort 13 = true := a.le
    have b3 : y.leavesShort 13 = true := b.le
    have a4 : x.weight ≤ w := a.we
    have b4 : y.weight ≤ v := b.we
    refine ⟨?_, ?_, ?_, ?_⟩
    · show (x.showable && y.showable && PyData.showableKv r) = true
      rw [a1, b1, c1]; rfl
    · show max (max x.depth y.depth) (PyData.depthKv r) ≤ k
      exact Nat.max_le.mpr ⟨Nat.max_le.mpr ⟨a2, b2⟩, c2⟩
    · show (x.leavesShort 13 && y.leavesShort 13 && PyData.leavesShortKv 13 r) = true
      rw [a3, b3, c3]; rfl
    · show x.weight + y.weight + 2 + PyData.weightKv r ≤ (w + v + 2) * (r.length + 1)
      rw [Nat.mul_add]
      omega
theorem Sm.dict {kvs : List (PyData × PyData)} {k w v : Nat} (h : ∀ q ∈ kvs, Sm q.1 k w ∧ Sm q.2 k v) : Sm (.dict kvs) (k + 1) ((w + v + 2) * kvs.length) := by
  obtain ⟨c1, c2, c3, c4⟩ := smKv h
  exact ⟨c1, Nat.succ_le_succ c2, c3, c4⟩
theorem Sm.fits {d : PyData} {k w : Nat} (h : Sm d k w) (hw : w ≤ 1048576) : d.shown.length ≤ sizeLine := PyData.shown_fits (by decide) (by decide) h.le (Nat.le_trans h.we (by omega))
/-! ### the tree, the line, the requests as data -/
def trD (t : List Row) : PyData := .dict (t.map fun r => (.str r.1, .list (r.2.2.map .str)))
theorem sm_names {xs : List Str} (h : ∀ x ∈ xs, NameOk x) : SmAll (xs.map PyData.str) 0 8 := .of fun d hd => by
  obtain ⟨x, hx, rfl⟩ := List.mem_map.mp hd
  exact .str (h x hx)
theorem OkTree.nameOf {t : List Row} (ok : OkTree t) {r : Row} (hr : r ∈ t) {y : Str} (hy : y ∈ r.2.2) : NameOk y := by
  obtain ⟨s, hs, e⟩ := ok.nbs r hr y hy
  rw [← e]
  exact ok.names s hs
theorem sm_tree {t : List Row} (ok : OkTree t) : Sm (trD t) 2 20000 := by
  have h := Sm.dict (kvs := t.map fun r => (PyData.str r.1, PyData.list (r.2.2.map .str))) (k := 1) (w := 8) (v := 360) fun q hq => by
    obtain ⟨r, hr, rfl⟩ := List.mem_map.mp hq
    refine ⟨(Sm.str (ok.names r hr)).mono (Nat.zero_le _) (Nat.le_refl _), ?_⟩
    have h := (sm_names fun y hy => ok.nameOf hr hy : SmAll (r.2.2.map PyData.str) 0 8).list
    refine h.mono (Nat.le_refl _) ?_
    have := ok.deg hr
    rw [List.length_map]
    omega
  refine h.mono (Nat.le_refl _) ?_
  have := ok.n40
  rw [List.length_map]
  omega
section
variable {H : Hp}
theorem dat_tree {d : Addr} {t : List Row} (h : H d = some (.dK (kvsOf t))) (hR : RowsAt H t) : Dat H (.ref d) (trD t) := by
  have ds : Dats H ((kvsOf t).map (·.2)) (t.map fun r => PyData.list (r.2.2.map .str)) := by
    rw [kvsOf, List.map_map]
    exact Dats.of _ _ t fun r hr => .lst (.inl (hR r hr)) (Dats.strs _)
  have e : ((kvsOf t).map fun q => keyD q.1).zip (t.map fun r => PyData.list (r.2.2.map .str)) = t.map fun r => (PyData.str r.1, PyData.list (r.2.2.map .str)) := by
    rw [kvsOf, List.map_map, List.zip_map']
    rfl
  have := Dat.dic (.inl h) ds
  rw [e] at this
  exact this
end
theorem trD_eq {lt kt : List Row} (h : (lt.map fun r => (r.1, r.2.2)) = kt.map fun r => (r.1, r.2.2)) : trD lt = trD kt := by
  have e : ∀ t : List Row, trD t = .dict ((t.map fun r => (r.1, r.2.2)).map fun q => (PyData.str q.1, PyData.list (q.2.map .str))) := fun t => by
    rw [List.map_map]
    rfl
  rw [e, e, h]
theorem Ext.kp' {Ps : List Addr} {HB H H' : Hp} {p : Addr} {n : Nat} (e : Ext Ps HB H) (hb : HB p = Option.none) (hp : PotAt H p n) (k : Kp p H H') : Ext Ps HB H' where
  kp := fun b o h z => k b o (ne_of_none h hb) (e.kp b o h z)
  tb := fun q hq h => by
    obtain ⟨ps, e1, e2⟩ := e.tb q hq h
    exact ⟨ps, k q _ (hp.ne' e1 fun _ _ _ z => by cases z) e1, e2⟩
theorem Ext.sys {Ps : List Addr} {H H' : Hp} (e : Ext Ps H H') (t : Tabs Ps H) (h : SysOk H) : SysOk H' := by
  obtain ⟨o, φ, h⟩ := h
  exact ⟨o, φ, e.get t h fun _ z => by cases z⟩
theorem PotAt.ext {Ps : List Addr} {H H' : Hp} {p : Addr} {n : Nat} (h : PotAt H p n) (e : Ext Ps H H') (t : Tabs Ps H) : PotAt H' p n := by
  obtain ⟨x, y, z, a, b⟩ := h
  exact ⟨x, y, z, e.get t a (fun _ z => HO.noConfusion z), b⟩
theorem rowPut_kv' {zs : List Row} {v : Row} {ws : List Str} (h : v ∈ zs) (nd : (zs.map (·.1)).Nodup) : kvsOf (rowPut zs v.1 v.2.1 ws) = kvsOf zs := by
  unfold kvsOf rowPut
  rw [List.map_map]
  refine List.map_congr_left fun r hr => ?_
  show ((Sum.inr (if r.1 = v.1 then (r.1, v.2.1, ws) else r).1 : Key), V.ref (if r.1 = v.1 then (r.1, v.2.1, ws) else r).2.1) = (Sum.inr r.1, .ref r.2.1)
  by_cases e : r.1 = v.1
  · have rv : r = v := inj_nd nd hr h e
    rw [if_pos e, rv]
  · rw [if_neg e]
theorem rowPut_ad' {zs : List Row} {v : Row} {ws : List Str} (h : v ∈ zs) (nd : (zs.map (·.1)).Nodup) : (rowPut zs v.1 v.2.1 ws).map (·.2.1) = zs.map (·.2.1) := by
  unfold rowPut
  rw [List.map_map]
  refine List.map_congr_left fun r hr => ?_
  show (if r.1 = v.1 then (r.1, v.2.1, ws) else r).2.1 = r.2.1
  by_cases e : r.1 = v.1
  · have rv : r = v := inj_nd nd hr h e
    rw [if_pos e, rv]
  · rw [if_neg e]
end A8
set_option Elab.async false
set_option linter.all false
set_option maxRecDepth 100000
set_option maxHeartbeats 4000000
namespace A8
open PySem PySem.Spec PyProof.Rows L2 AL
/-! ### a tree under other names -/
structure Ren (t mt : List Row) (ρ : Str → Str) : Prop where
  inj : ∀ r ∈ t, ∀ s ∈ t, ρ r.1 = ρ s.1 → r.1 = s.1
  nm : mt.map (·.1) = t.map fun r => ρ r.1
  row : ∀ r ∈ mt, ∃ s ∈ t, r.1 = ρ s.1 ∧ r.2.2.Perm (s.2.2.map ρ) ∧ sortedS r.2.2 = true
section
variable {t mt lt : List Row} {ρ : Str → Str} {x v : Str}
theorem Ren.bwd (R : Ren t mt ρ) {s : Row} (hs : s ∈ t) : ∃ r ∈ mt, r.1 = ρ s.1 := by
  have : ρ s.1 ∈ mt.map (·.1) := by
    rw [R.nm]
    exact List.mem_map.mpr ⟨s, hs, rfl⟩
  obtain ⟨r, hr, e⟩ := List.mem_map.mp this
  exact ⟨r, hr, e⟩
theorem nd_mapOn {α β : Type} {f : α → β} : ∀ {l : List α}, l.Nodup → (∀ a ∈ l, ∀ b ∈ l, f a = f b → a = b) → (l.map f).Nodup
  | [], _, _ => .nil
  | a :: l, nd, h => by
    have n2 := List.nodup_cons.mp nd
    rw [List.map_cons, List.nodup_cons]
    refine ⟨fun z => ?_, nd_mapOn n2.2 fun a ha b hb => h a (List.mem_cons_of_mem _ ha) b (List.mem_cons_of_mem _ hb)⟩
    obtain ⟨b, hb, e⟩ := List.mem_map.mp z
    exact n2.1 (h b (List.mem_cons_of_mem _ hb) a List.mem_cons_self e ▸ hb)
theorem Ren.nodup (R : Ren t mt ρ) (ok : OkTree t) : (mt.map (·.1)).Nodup := by
  rw [R.nm]
  have e : (t.map fun r => ρ r.1) = (t.map (·.1)).map ρ := by rw [List.map_map]; rfl
  rw [e]
  refine nd_mapOn ok.nodup fun a ha b hb h => ?_
  obtain ⟨r, hr, rfl⟩ := List.mem_map.mp ha
  obtain ⟨s, hs, rfl⟩ := List.mem_map.mp hb
  exact R.inj r hr s hs h
/-- a neighbour by its own name -/
theorem Ren.nb (R : Ren t mt ρ) (ok : OkTree t) {r : Row} (hr : r ∈ mt) (w : Str) : w ∈ r.2.2 ↔ ∃ s ∈ t, ∃ q ∈ t, r.1 = ρ s.1 ∧ w = ρ q.1 ∧ q.1 ∈ s.2.2 := by
  obtain ⟨s, hs, e, pm, _⟩ := R.row r hr
  rw [pm.mem_iff, List.mem_map]
  constructor
  · rintro ⟨y, hy, rfl⟩
    obtain ⟨q, hq, rfl⟩ := ok.nbs s hs y hy
    exact ⟨s, hs, q, hq, e, rfl, hy⟩
  · rintro ⟨s', hs', q, hq, e', rfl, h⟩
    have : s' = s := ok.one hs' hs (R.inj s' hs' s hs (e'.symm.trans e))
    subst this
    exact ⟨_, h, rfl⟩
theorem Ren.ok (R : Ren t mt ρ) (ok : OkTree t) (nm : ∀ r ∈ t, NameOk (ρ r.1)) : OkTree mt := by
  have len : mt.length = t.length := by
    have := congrArg List.length R.nm
    rw [List.length_map, List.length_map] at this
    exact this
  have n1 := ok.n1
  have n40 := ok.n40
  refine ⟨by omega, by omega, fun r hr => ?_, R.nodup ok, fun r hr y hy => ?_, fun r hr hy => ?_, fun r hr => ?_, fun r hr s hs hy => ?_, ?_, fun S hS cl => ?_⟩
  · obtain ⟨s, hs, e, _⟩ := R.row r hr
    rw [e]
    exact nm s hs
  · obtain ⟨s, hs, q, hq, _, rfl, _⟩ := (R.nb ok hr y).mp hy
    obtain ⟨r', hr', e⟩ := R.bwd hq
    exact ⟨r', hr', e⟩
  · obtain ⟨s, hs, q, hq, e, e2, h⟩ := (R.nb ok hr _).mp hy
    have : q.1 = s.1 := R.inj q hq s hs (e2.symm.trans e)
    rw [this] at h
    exact ok.self s hs h
  · obtain ⟨s, hs, e, pm, so⟩ := R.row r hr
    refine ⟨so, pm.symm.nodup (nd_mapOn (ok.asc s hs).2 fun a ha b hb h => ?_)⟩
    obtain ⟨p, hp, rfl⟩ := ok.nbs s hs a ha
    obtain ⟨q, hq, rfl⟩ := ok.nbs s hs b hb
    exact R.inj p hp q hq h
  · obtain ⟨p, hp, q, hq, e, e2, h⟩ := (R.nb ok hr _).mp hy
    exact (R.nb ok hs _).mpr ⟨q, hq, p, hp, e2, e, ok.sym p hp q hq h⟩
  · have e : (mt.map fun r => r.2.2.length) = t.map fun r => r.2.2.length := by
      have e1 : (mt.map fun r => r.2.2.length) = (mt.map (·.1)).map fun a => degOf (mt) a := by
        rw [List.map_map]
        refine List.map_congr_left fun r hr => ?_
        show r.2.2.length = degOf mt r.1
        unfold degOf
        cases q : mt.find? (fun s => decide (s.1 = r.1)) with
        | none =>
          have := List.find?_eq_none.mp q r hr
          simp at this
        | some s =>
          have h2 := List.mem_of_find?_eq_some q
          have h1 : s.1 = r.1 := by simpa using List.find?_some q
          have := OkTree.one.inj_of_nodup (R.nodup ok) h2 hr h1
          rw [this]
      rw [e1, R.nm, List.map_map]
      refine List.map_congr_left fun s hs => ?_
      show degOf mt (ρ s.1) = s.2.2.length
      obtain ⟨r, hr, er⟩ := R.bwd hs
      unfold degOf
      cases q : mt.find? (fun u => decide (u.1 = ρ s.1)) with
      | none =>
        have := List.find?_eq_none.mp q r hr
        rw [er] at this
        simp at this
      | some u =>
        have h2 := List.mem_of_find?_eq_some q
        have h1 : u.1 = ρ s.1 := by simpa using List.find?_some q
        obtain ⟨s', hs', e', pm, _⟩ := R.row u h2
        have : s' = s := ok.one hs' hs (R.inj s' hs' s hs (e'.symm.trans h1))
        subst this
        show u.2.2.length = _
        rw [pm.length_eq, List.length_map]
    rw [e, len]
    exact ok.ends
  · have all := ok.conn (fun a => S (ρ a)) (by
      obtain ⟨r, hr, h⟩ := hS
      obtain ⟨s, hs, e, _⟩ := R.row r hr
      exact ⟨s, hs, e ▸ h⟩) fun s hs h y hy => by
        obtain ⟨r, hr, er⟩ := R.bwd hs
        obtain ⟨q, hq, rfl⟩ := ok.nbs s hs y hy
        exact cl r hr (er ▸ h) _ ((R.nb ok hr _).mpr ⟨s, hs, q, hq, er, rfl, hy⟩)
    intro r hr
    obtain ⟨s, hs, e, _⟩ := R.row r hr
    rw [e]
    exact all s hs
theorem Ren.nbUp (R : Ren t mt ρ) (ok : OkTree t) {a b : Str} (h : Nb t a b) : Nb mt (ρ a) (ρ b) := by
  obtain ⟨s, hs, rfl, hb⟩ := h
  obtain ⟨q, hq, rfl⟩ := ok.nbs s hs b hb
  obtain ⟨r, hr, er⟩ := R.bwd hs
  exact ⟨r, hr, er, (R.nb ok hr _).mpr ⟨s, hs, q, hq, er, rfl, hb⟩⟩
theorem Nb.left {a b : Str} (h : Nb t a b) : ∃ r ∈ t, r.1 = a := by
  obtain ⟨r, hr, e, _⟩ := h
  exact ⟨r, hr, e⟩
theorem Nb.right (ok : OkTree t) {a b : Str} (h : Nb t a b) : ∃ r ∈ t, r.1 = b := by
  obtain ⟨r, hr, _, hb⟩ := h
  exact ok.nbs r hr b hb
theorem Wk.map (R : Ren t mt ρ) (ok : OkTree t) {p : List Str} (W : Wk t v p) : Wk mt (ρ v) (p.map ρ) where
  h0 := by rw [List.getElem?_map, W.h0]; rfl
  nb := fun i a b h1 h2 => by
    rw [List.getElem?_map] at h1 h2
    cases q1 : p[i]? with
    | none => rw [q1] at h1; cases h1
    | some a' =>
      cases q2 : p[i + 1]? with
      | none => rw [q2] at h2; cases h2
      | some b' =>
        rw [q1] at h1; rw [q2] at h2
        rw [← Option.some.inj h1, ← Option.some.inj h2]
        exact R.nbUp ok (W.nb i a' b' q1 q2)
  nr := fun i a b h1 h2 e => by
    rw [List.getElem?_map] at h1 h2
    cases q1 : p[i]? with
    | none => rw [q1] at h1; cases h1
    | some a' =>
      cases q2 : p[i + 2]? with
      | none => rw [q2] at h2; cases h2
      | some b' =>
        rw [q1] at h1; rw [q2] at h2
        have ea : ρ a' = a := Option.some.inj h1
        have eb : ρ b' = b := Option.some.inj h2
        have l1 : i + 1 < p.length := by have := at_lt q2; omega
        have qm : p[i + 1]? = some p[i + 1] := List.getElem?_eq_getElem l1
        obtain ⟨r, hr, e1⟩ := (W.nb i a' _ q1 qm).left
        obtain ⟨s, hs, e2⟩ := (W.nb (i + 1) _ b' qm q2).right ok
        refine W.nr i a' b' q1 q2 ?_
        rw [← e1, ← e2]
        exact R.inj r hr s hs (by rw [e1, e2, ea, eb, e])
/-- a walk stands in a greater tree -/
theorem Wk.up {p : List Str} (h : ∀ a b, Nb t a b → Nb lt a b) (W : Wk t v p) : Wk lt v p := ⟨W.h0, fun i a b h1 h2 => h a b (W.nb i a b h1 h2), W.nr⟩
theorem Join.nbUp (j : Join t x v lt) (ok : OkTree t) (hx : x ∉ t.map (·.1)) (hv : v ∈ t.map (·.1)) {a b : Str} (h : Nb t a b) : Nb lt a b := by
  obtain ⟨s, hs, rfl, hb⟩ := h
  obtain ⟨r, hr, er⟩ := j.of (.inr (List.mem_map.mpr ⟨s, hs, rfl⟩))
  exact ⟨r, hr, er, (j.mem ok hx hv hr b).mpr (.inl ⟨s, hs, er.symm, hb⟩)⟩
theorem Join.wk (j : Join t x v lt) (ok : OkTree t) (hx : x ∉ t.map (·.1)) (hv : v ∈ t.map (·.1)) {p : List Str} (W : Wk t v p) : Wk lt x (x :: p) where
  h0 := rfl
  nb := fun i a b h1 h2 => by
    cases i with
    | zero =>
      rw [List.getElem?_cons_succ, W.h0] at h2
      rw [List.getElem?_cons_zero] at h1
      rw [← Option.some.inj h1, ← Option.some.inj h2]
      obtain ⟨r, hr, er⟩ := j.of (.inl rfl)
      exact ⟨r, hr, er, (j.mem ok hx hv hr v).mpr (.inr (.inl ⟨er, rfl⟩))⟩
    | succ i =>
      rw [List.getElem?_cons_succ] at h1 h2
      exact j.nbUp ok hx hv (W.nb i a b h1 h2)
  nr := fun i a b h1 h2 e => by
    cases i with
    | zero =>
      rw [List.getElem?_cons_zero] at h1
      rw [List.getElem?_cons_succ] at h2
      obtain ⟨r, hr, er⟩ := (W.nb 0 v b W.h0 h2).right ok
      exact hx (List.mem_map.mpr ⟨r, hr, by rw [er, ← e, ← Option.some.inj h1]⟩)
    | succ i =>
      rw [List.getElem?_cons_succ] at h1 h2
      exact W.nr i a b h1 h2 e
/-- a leaf here, a leaf there: in either order -/
theorem join2 {y u : Str} {l2 m1 m2 : List Row} (ok : OkTree t) (j1 : Lf t x v lt) (j2 : Lf lt y u l2) (k1 : Lf t y u m1) (k2 : Lf m1 x v m2) (okl : OkTree lt) (okm : OkTree m1) (xy : x ≠ y)
    (hx : x ∉ t.map (·.1)) (hy : y ∉ t.map (·.1)) (hv : v ∈ t.map (·.1)) (hu : u ∈ t.map (·.1)) : (l2.map fun r => (r.1, r.2.2)) = m2.map fun r => (r.1, r.2.2) := by
  have inL : ∀ {a : Str}, a ∈ t.map (·.1) → a ∈ lt.map (·.1) := fun {a} h => by
    obtain ⟨r, hr, e⟩ := j1.toJoin.of (.inr h)
    exact List.mem_map.mpr ⟨r, hr, e⟩
  have inM : ∀ {a : Str}, a ∈ t.map (·.1) → a ∈ m1.map (·.1) := fun {a} h => by
    obtain ⟨r, hr, e⟩ := k1.toJoin.of (.inr h)
    exact List.mem_map.mpr ⟨r, hr, e⟩
  have yL : y ∉ lt.map (·.1) := fun z => by
    rcases List.mem_cons.mp (j1.nm.subset z) with e | e
    · exact xy e.symm
    · exact hy e
  have xM : x ∉ m1.map (·.1) := fun z => by
    rcases List.mem_cons.mp (k1.nm.subset z) with e | e
    · exact xy e
    · exact hx e
  have okl2 := List.nodup_cons.mpr ⟨yL, okl.nodup⟩
  have okm2 := List.nodup_cons.mpr ⟨xM, okm.nodup⟩
  have n2 : (l2.map (·.1)).Nodup := j2.nm.symm.nodup okl2
  have nm2 : (m2.map (·.1)).Nodup := k2.nm.symm.nodup okm2
  have names : l2.map (·.1) = m2.map (·.1) := sorted_eq j2.so n2 k2.so nm2 fun k => by
    rw [j2.nm.mem_iff, k2.nm.mem_iff, List.mem_cons, List.mem_cons, j1.nm.mem_iff, k1.nm.mem_iff, List.mem_cons, List.mem_cons]
    constructor
    · rintro (h | h | h)
      · exact .inr (.inl h)
      · exact .inl h
      · exact .inr (.inr h)
    · rintro (h | h | h)
      · exact .inr (.inl h)
      · exact .inl h
      · exact .inr (.inr h)
  have adj : ∀ {jt : List Row} {x v : Str}, Join t x v jt → x ∉ t.map (·.1) → v ∈ t.map (·.1) → ∀ a b, Adj jt a b ↔ (a ∈ jt.map (·.1) ∧ (Adj t a b ∨ (a = x ∧ b = v) ∨ (a = v ∧ b = x))) := fun {jt x v} j hx hv a b => by
    constructor
    · rintro ⟨r, hr, rfl, h⟩
      exact ⟨List.mem_map.mpr ⟨r, hr, rfl⟩, (j.mem ok hx hv hr b).mp h⟩
    · rintro ⟨h, h2⟩
      obtain ⟨r, hr, rfl⟩ := List.mem_map.mp h
      exact ⟨r, hr, rfl, (j.mem ok hx hv hr b).mpr h2⟩
  refine rows_eq names fun r hr s hs e => ?_
  -- sorted, each once
  have asc : ∀ {jt kt : List Row} {x v : Str}, Join jt x v kt → OkTree jt → x ∉ jt.map (·.1) → v ∈ jt.map (·.1) → ∀ r ∈ kt, sortedS r.2.2 = true ∧ r.2.2.Nodup := fun {jt kt x v} j o hx hv r hr => by
    rcases j.row r hr with ⟨_, e⟩ | ⟨s, hs, e, h⟩
    · rw [e]
      exact ⟨rfl, by simp⟩
    · rcases h with ⟨_, h⟩ | ⟨_, pm, so⟩
      · rw [h]
        exact o.asc s hs
      · refine ⟨so, pm.symm.nodup (List.nodup_append.mpr ⟨(o.asc s hs).2, by simp, fun a ha b hb q => ?_⟩)⟩
        rw [List.mem_singleton.mp hb] at q
        obtain ⟨u, hu, eu⟩ := o.nbs s hs a ha
        exact hx (List.mem_map.mpr ⟨u, hu, eu.trans q⟩)
  have a1 := asc j2.toJoin okl yL (inL hu) r hr
  have a2 := asc k2.toJoin okm xM (inM hv) s hs
  refine sorted_eq a1.1 a1.2 a2.1 a2.2 fun k => ?_
  rw [j2.toJoin.mem okl yL (inL hu) hr k, k2.toJoin.mem okm xM (inM hv) hs k, adj j1.toJoin hx hv, adj k1.toJoin hy hu, e]
  have inv : ∀ a b, Adj t a b → a ∈ lt.map (·.1) ∧ a ∈ m1.map (·.1) := fun a b ⟨q, hq, e, _⟩ => ⟨inL (List.mem_map.mpr ⟨q, hq, e⟩), inM (List.mem_map.mpr ⟨q, hq, e⟩)⟩
  have xL : x ∈ lt.map (·.1) := by
    obtain ⟨q, hq, e⟩ := j1.toJoin.of (.inl rfl)
    exact List.mem_map.mpr ⟨q, hq, e⟩
  have yM : y ∈ m1.map (·.1) := by
    obtain ⟨q, hq, e⟩ := k1.toJoin.of (.inl rfl)
    exact List.mem_map.mpr ⟨q, hq, e⟩
  constructor
  · rintro (⟨_, h | h | h⟩ | h | h)
    · exact .inl ⟨(inv _ _ h).2, .inl h⟩
    · exact .inr (.inl h)
    · exact .inr (.inr h)
    · exact .inl ⟨h.1 ▸ yM, .inr (.inl h)⟩
    · exact .inl ⟨h.1 ▸ inM hu, .inr (.inr h)⟩
  · rintro (⟨_, h | h | h⟩ | h | h)
    · exact .inl ⟨(inv _ _ h).1, .inl h⟩
    · exact .inr (.inl h)
    · exact .inr (.inr h)
    · exact .inl ⟨h.1 ▸ xL, .inr (.inl h)⟩
    · exact .inl ⟨h.1 ▸ inL hv, .inr (.inr h)⟩
end
end A8
set_option Elab.async false
set_option linter.all false
set_option maxRecDepth 100000
set_option maxHeartbeats 4000000
namespace A8
open PySem PySem.Spec PyProof.Rows L2 AL
open GxR (TabB TabG Tabbed)
/-! ### [e for x in .. for y in ..] -/
abbrev InW (J1 : It) (D : Addr) (g1 : TG) (tt1 : TT) (te : TE) (σ2 : L2.St) (vs1 : List Nat) (Nx : Hp → Prop) (H4 : Hp) : Prop := ∃ W1 : Nat → Nat → Hp → Prop, (∃ m, W1 0 m H4) ∧ ∀ j k H, W1 j k H →
  (J1.stop j H ∧ Nx H) ∨ (J1.go j H ∧ ∃ Nx1 : Hp → Prop, (∀ H', Nx1 H' → ∃ k', k' < k ∧ W1 (j + 1) k' H') ∧ ∀ x H', J1.yld j H x H' → g1 x (wipe σ2 vs1) H' fun σ3 H5 => wipe σ3 vs1 = wipe σ2 vs1 ∧
    tt1 σ3 H5 fun b H6 => if b = true then te σ3 H6 fun y H7 => ∃ acc, H7 D = some (.lst acc) ∧ acc.length < sizeLine ∧ Nx1 (upd H7 D (.lst (acc ++ [y]))) else Nx1 H6)
section
variable {J J1 : It} {n n1 : Nat} {G G1 : Hp → Prop} {Y Y1 : Nat → Hp → V → Hp → Prop} {g g1 : TG} {tt tt1 : TT} {wi1 : TI} {te : TE} {vs vs1 : List Nat} {σ σ2 : L2.St} {H1 H4 : Hp} {D : Addr} {Qd Nx : Hp → Prop}
theorem lc2_out (w : Walk J n G Y) (Pv : Nat → Hp → Prop) (h0 : Pv 0 (upd H1 D (.lst []))) (hG : ∀ i H, i ≤ n → Pv i H → G H)
    (hs : ∀ i x H H', i < n → Pv i H → Y i H x H' → g x (wipe σ vs) H' fun σ2 H2 => wipe σ2 vs = wipe σ vs ∧ tt σ2 H2 fun b H3 => if b = true then wi1 σ2 H3 fun J1 H4 => InW J1 D g1 tt1 te σ2 vs1 (Pv (i + 1)) H4 else Pv (i + 1) H3) (hd : ∀ H, Pv n H → Qd H) :
    ∃ W : Nat → Nat → Hp → Prop, (∃ m, W 0 m (upd H1 D (.lst []))) ∧ ∀ i m H, W i m H → (J.stop i H ∧ Qd H) ∨ (J.go i H ∧ ∃ Nx : Hp → Prop, (∀ H', Nx H' → ∃ m', m' < m ∧ W (i + 1) m' H') ∧
      ∀ x H', J.yld i H x H' → g x (wipe σ vs) H' fun σ2 H2 => wipe σ2 vs = wipe σ vs ∧ tt σ2 H2 fun b H3 => if b = true then wi1 σ2 H3 fun J1 H4 => InW J1 D g1 tt1 te σ2 vs1 Nx H4 else Nx H3) := by
  refine ⟨fun i m H => m + i = n ∧ Pv i H, ⟨n, Nat.add_zero n, h0⟩, ?_⟩
  rintro i m H ⟨e, p⟩
  have q := hG i H (by omega) p
  cases m with
  | zero =>
    obtain rfl : i = n := by omega
    exact .inl ⟨w.stops H q, hd H p⟩
  | succ m => exact .inr ⟨w.goes i H (by omega) q, Pv (i + 1), fun H' p' => ⟨m, Nat.lt_succ_self m, by omega, p'⟩, fun x H' y => hs i x H H' (by omega) p (w.yields i H x H' (by omega) q y)⟩
theorem lc2_in (w : Walk J1 n1 G1 Y1) (Pi : Nat → Hp → Prop) (h0 : Pi 0 H4) (hG : ∀ i H, i ≤ n1 → Pi i H → G1 H)
    (hs : ∀ i x H H', i < n1 → Pi i H → Y1 i H x H' → g1 x (wipe σ2 vs1) H' fun σ3 H5 => wipe σ3 vs1 = wipe σ2 vs1 ∧ tt1 σ3 H5 fun b H6 => if b = true then te σ3 H6 fun y H7 => ∃ acc, H7 D = some (.lst acc) ∧ acc.length < sizeLine ∧ Pi (i + 1) (upd H7 D (.lst (acc ++ [y])))
      else Pi (i + 1) H6) (hd : ∀ H, Pi n1 H → Nx H) : InW J1 D g1 tt1 te σ2 vs1 Nx H4 := by
  refine ⟨fun i m H => m + i = n1 ∧ Pi i H, ⟨n1, Nat.add_zero n1, h0⟩, ?_⟩
  rintro i m H ⟨e, p⟩
  have q := hG i H (by omega) p
  cases m with
  | zero =>
    obtain rfl : i = n1 := by omega
    exact .inl ⟨w.stops H q, hd H p⟩
  | succ m => exact .inr ⟨w.goes i H (by omega) q, Pi (i + 1), fun H' p' => ⟨m, Nat.lt_succ_self m, by omega, p'⟩, fun x H' y => hs i x H H' (by omega) p (w.yields i H x H' (by omega) q y)⟩
end
/-! ### pairs of texts -/
abbrev PairsAt (H : Hp) (ts : List Addr) (qs : List (Str × Str)) : Prop := Paired (fun a (q : Str × Str) => H a = some (.tup [.str q.1, .str q.2])) ts qs
theorem PairsAt.keep {H H' : Hp} {ts : List Addr} {qs : List (Str × Str)} (h : PairsAt H ts qs) (k : ∀ b xs, H b = some (.tup xs) → H' b = some (.tup xs)) : PairsAt H' ts qs := by
  unfold PairsAt at h ⊢
  induction h with
  | nil => exact .nil
  | cons h _ ih => exact .cons (k _ _ h) ih
theorem PairsAt.snoc {H : Hp} {ts : List Addr} {qs : List (Str × Str)} {a : Addr} {q : Str × Str} (h : PairsAt H ts qs) (e : H a = some (.tup [.str q.1, .str q.2])) : PairsAt H (ts ++ [a]) (qs ++ [q]) := by
  unfold PairsAt at h ⊢
  induction h with
  | nil => exact .cons e .nil
  | cons h _ ih => exact .cons h ih
theorem PairsAt.len {H : Hp} {ts : List Addr} {qs : List (Str × Str)} (h : PairsAt H ts qs) : ts.length = qs.length := by
  unfold PairsAt at h
  induction h with
  | nil => rfl
  | cons _ _ ih => rw [List.length_cons, List.length_cons, ih]
theorem PairsAt.append {H : Hp} {ts us : List Addr} {qs rs : List (Str × Str)} (h : PairsAt H ts qs) (k : PairsAt H us rs) : PairsAt H (ts ++ us) (qs ++ rs) := by
  unfold PairsAt at h k ⊢
  induction h with
  | nil => exact k
  | cons h _ ih => exact .cons h ih
def nbO (t : List Row) (a : Str) : List Str := match t.find? (fun r => decide (r.1 = a)) with
  | some r => r.2.2
  | none => []
theorem OkTree.nbAt {t : List Row} (ok : OkTree t) {s : Row} (hs : s ∈ t) : nbO t s.1 = s.2.2 := by
  unfold nbO
  cases q : t.find? (fun r => decide (r.1 = s.1)) with
  | none =>
    have := List.find?_eq_none.mp q s hs
    simp at this
  | some r => rw [ok.one (List.mem_of_find?_eq_some q) hs (by simpa using List.find?_some q)]
def upE (y : Str) (zs : List Str) : List (Str × Str) := (zs.filter fun z => decide (sLt y z)).map fun z => (y, z)
def edgeL (t : List Row) (ys : List Str) : List (Str × Str) := ys.flatMap fun y => upE y (nbO t y)
theorem edgeL_snoc (t : List Row) (ys : List Str) (y : Str) : edgeL t (ys ++ [y]) = edgeL t ys ++ upE y (nbO t y) := by
  unfold edgeL
  rw [List.flatMap_append]
  simp
theorem upE_snoc (y : Str) (zs : List Str) (z : Str) : upE y (zs ++ [z]) = upE y zs ++ if sLt y z then [(y, z)] else [] := by
  unfold upE
  rw [List.filter_append, List.map_append]
  by_cases h : sLt y z
  · rw [if_pos h]
    simp [h]
  · rw [if_neg h]
    simp [h]
theorem upE_len (y : Str) (zs : List Str) : (upE y zs).length ≤ zs.length := by
  unfold upE
  rw [List.length_map]
  exact List.length_filter_le _ _
abbrev sEdges : Stmt := top 14
theorem scEdges : FnScope ["tree", "node", "other"] ["tree"] (defScope sEdges) := ⟨rfl, rfl, rfl, by decide +kernel, rfl, by decide +kernel, by decide +kernel⟩
def spEdges (Ps : List Addr) : Sp := fun vs H Q _ => ∃ (d : Addr) (t : List Row), vs = [.ref d] ∧ H d = some (.dK (kvsOf t)) ∧ RowsAt H t ∧ OkTree t ∧ Tabs Ps H ∧
  ∀ (H' : Hp) (q : Addr) (ts : List Addr) (ys : List Str), Ext Ps H H' → H q = none → H' q = some (.lst (ts.map V.ref)) → ys.Perm (t.map (·.1)) → sortedS ys = true → PairsAt H' ts (edgeL t ys) → ts.length ≤ 1640 → Q (.ref q) H'
section
variable {P : Program} {w : World} {K : PySem.W.Frag} {mg : Str → Option Value} {base : Heap} {f c p1 : Addr} {fd : FuncData} {Ps : List Addr}
theorem ok_edges (F : FunD K "edges_of" "edges_of" (defArgs sEdges) (defBody sEdges) (defScope sEdges) [] [] f fd) (cC : Cal P w K mg base 6 "check_tree" (spCheckTree Ps)) (gS : mg "sorted" = none) : FnOk P w K mg base CX0 7 f fd ["tree"] (spEdges Ps) := by
  refine F.ok scEdges (fun vs H Q E h => ?_) ?_
  · obtain ⟨d, t, rfl, _⟩ := h
    rfl
  intro cdv A outer s H vs Q E hr h
  refine ⟨_, PSs.nox (pss_cons (ps_expr (pe_c cC hr (by decide) rfl (pa_cons (pv 0) pa_nil)))
    (pss_one (ps_ret (pe_lc2 (own := [("node", 1), ("other", 2)]) (vs1 := [2]) (g := gName 1) (g1 := gName 2) (tt := tYes) (wi1 := iList K (tDGet (tVar 0) (tVar 1)))
      (tt1 := tTest (tOp (fun x y H Q => ∃ i j, x = .str i ∧ y = .str j ∧ Q (.bl (decide (i.cps.toList < j.cps.toList))) H) (tVar 1) (tVar 2))) (te := tTup (tCons (tVar 1) (tCons (tVar 2) tNil))) rfl scEdges.nd (pi_list (pe_callB (call_sortedD rfl) rfl gS (by decide +kernel) (pa_cons (pv 0) pa_nil)))
      (blkOk_by (N := ["tree", "node", "other"]) (sc := defScope sEdges) (by decide +kernel)) (by decide) (fun _ _ _ _ _ => pg_name (i := 1) scEdges.nd rfl (Or.inl rfl)) (fun _ _ _ _ _ => pts_nil) (fun _ _ _ _ _ => pi_list (pe_dget (hu_of hr) (pv 0) (pv 1) (fun _ _ => rfl)))
      (fun _ _ _ _ _ => pg_name (i := 2) scEdges.nd rfl (Or.inl rfl)) (fun _ _ _ _ _ => pts_one (pt_cmpR op_lt_str (pv 1) (pv 2) (nomark _))) (fun _ _ _ _ _ => pe_tup (pa_cons (pv 1) (pa_cons (pv 2) pa_nil))))))), ?_⟩
  obtain ⟨d, t, rfl, hd, hR, ok, ht, hQ⟩ := h
  have n40 := ok.n40
  refine ⟨_, rfl, d, t, rfl, hd, hR, ok, ht, fun H1 e1 => ?_⟩
  have hd1 := e1.get ht hd fun _ z => HO.noConfusion z
  have hR1 := e1.rows ht hR
  refine ⟨_, rfl, d, kvsOf t, t.map (·.1), rfl, .inl hd1, nmEqK, by rw [List.length_map]; omega, fun ys so pm hso hs0 => ?_⟩
  have s2 : Same H1 (upd H1 so (.lst (ys.map V.str))) := snew hs0
  have hso2 : upd H1 so (.lst (ys.map V.str)) so = some (.lst (ys.map V.str)) := upd_same
  generalize upd H1 so (.lst (ys.map V.str)) = H2 at s2 hso2
  have yl : ys.length = t.length := by
    have := pm.length_eq
    rw [List.length_map] at this
    exact this
  refine ⟨so, rfl, ⟨_, .inl (.inl hso2)⟩, fun D hD => ?_⟩
  have eK : (ys.map V.str).length = ys.length := List.length_map _
  refine lc2_out (walk_list (K := K) (a := so) (xs := ys.map V.str)) (fun i H' => ∃ ts, Same H2 H' ∧ H' D = some (.lst (ts.map V.ref)) ∧ PairsAt H' ts (edgeL t (ys.take i)) ∧ ts.length ≤ 41 * i)
    ⟨[], snew hD, upd_same, .nil, Nat.zero_le _⟩ (fun i H' _ ⟨_, sm, _⟩ => .inl (.inl (sm _ _ hso2))) ?_ ?_
  · rintro i x H' H'' hi ⟨ts, sm, hD', hts, tl⟩ ⟨rfl, hx⟩
    rw [eK] at hi
    rw [List.getElem?_map, List.getElem?_eq_getElem hi] at hx
    have hy : ys[i]? = some ys[i] := List.getElem?_eq_getElem hi
    obtain ⟨r, hr', er⟩ := List.mem_map.mp (pm.subset (List.getElem_mem hi))
    rw [← er] at hx hy
    cases hx
    have T2 : TreeAt H2 d t := ⟨.inl (s2 _ _ hd1), fun r hr => s2 _ _ (hR1 r hr)⟩
    have T' : TreeAt H'' d t := ⟨.inl (sm _ _ (s2 _ _ hd1)), fun r hr => sm _ _ (s2 _ _ (hR1 r hr))⟩
    have dg := ok.deg hr'
    refine ⟨rfl, _, rfl, _, rfl, d, _, rfl, T'.get ok hr', r.2.1, rfl, ⟨_, T'.row hr' K⟩, ?_⟩
    have rK : (r.2.2.map V.str).length = r.2.2.length := List.length_map _
    refine lc2_in (walk_list (K := K) (a := r.2.1) (xs := r.2.2.map V.str)) (fun j H' => ∃ ts, Same H2 H' ∧ H' D = some (.lst (ts.map V.ref)) ∧ PairsAt H' ts (edgeL t (ys.take i) ++ upE r.1 (r.2.2.take j)) ∧ ts.length ≤ 41 * i + j)
      ⟨ts, sm, hD', by rw [List.take_zero]; show PairsAt _ _ (_ ++ []); rw [List.append_nil]; exact hts, tl⟩ (fun j G _ ⟨_, sm', _⟩ => .inl (.inl (sm' _ _ (T2.rows r hr')))) ?_ ?_
    · rintro j z G G' hj ⟨us, sm', hDj, hus, ul⟩ ⟨rfl, hz⟩
      rw [rK] at hj
      rw [List.getElem?_map, List.getElem?_eq_getElem hj] at hz
      have hzz : r.2.2[j]? = some r.2.2[j] := List.getElem?_eq_getElem hj
      cases hz
      have step : upE r.1 (r.2.2.take (j + 1)) = upE r.1 (r.2.2.take j) ++ if sLt r.1 r.2.2[j] then [(r.1, r.2.2[j])] else [] := by
        rw [List.take_succ, hzz]
        exact upE_snoc _ _ _
      refine ⟨rfl, _, rfl, _, rfl, _, _, rfl, rfl, _, rfl, ite2 (fun h => ?_) fun h => ?_⟩
      · have lt : sLt r.1 r.2.2[j] := of_decide_eq_true h
        refine ⟨_, rfl, _, rfl, by show 2 ≤ sizeLine; decide, fun tp htp => ?_⟩
        have Dt : D ≠ tp := ne_of_none hDj htp
        refine ⟨us.map V.ref, by rw [upd_ne Dt]; exact hDj, by rw [List.length_map, sizeLine_eq]; omega, us ++ [tp], fun b o e => ?_, ?_, ?_, ?_⟩
        · rw [upd_ne (ne_of_none e hD), upd_ne (ne_of_none (sm' _ _ e) htp)]
          exact sm' _ _ e
        · rw [upd_same, List.map_append]
          rfl
        · rw [step, if_pos lt, ← List.append_assoc]
          refine PairsAt.snoc (hus.keep fun b xs e => ?_) ?_
          · have z2 : b ≠ D := fun z => by rw [z, hDj] at e; cases e
            rw [upd_ne z2, upd_ne (ne_of_none e htp)]
            exact e
          · rw [upd_ne (Ne.symm Dt)]
            exact upd_same
        · rw [List.length_append]
          simp only [List.length_singleton]
          omega
      · have nlt : ¬ sLt r.1 r.2.2[j] := fun z => h (decide_eq_true z)
        refine ⟨us, sm', hDj, ?_, by omega⟩
        rw [step, if_neg nlt, List.append_nil]
        exact hus
    · rintro G ⟨us, sm', hDj, hus, ul⟩
      rw [rK] at hus ul
      refine ⟨us, sm', hDj, ?_, by omega⟩
      rw [List.take_length] at hus
      rw [List.take_succ, hy]
      show PairsAt G us (edgeL t (ys.take i ++ [r.1]))
      rw [edgeL_snoc, ok.nbAt hr']
      exact hus
  · rintro H' ⟨ts, sm, hD', hts, tl⟩
    rw [eK] at hts tl
    rw [List.take_length] at hts
    have e3 : Ext Ps H H2 := e1.trans (Ext.same s2)
    exact hQ H' D ts ys (e3.trans (Ext.same sm)) (e3.none hD ht) hD' pm hso hts (by omega)
end
end A8
set_option Elab.async false
set_option linter.all false
set_option maxRecDepth 100000
set_option maxHeartbeats 4000000
namespace A8
open PySem PySem.Spec PyProof.Rows L2 AL
open SrtO (Swo Srtd Stb)
/-! ### the edges, each once and in order -/
section
variable {t mt : List Row} {ρ : Str → Str}
theorem mem_upE {y a b : Str} {zs : List Str} : (a, b) ∈ upE y zs ↔ a = y ∧ b ∈ zs ∧ sLt y b := by
  unfold upE
  rw [List.mem_map]
  constructor
  · rintro ⟨z, hz, e⟩
    injection e with e1 e2
    obtain ⟨h1, h2⟩ := List.mem_filter.mp hz
    exact ⟨e1.symm, e2 ▸ h1, e2 ▸ of_decide_eq_true h2⟩
  · rintro ⟨e, h1, h2⟩
    exact ⟨b, List.mem_filter.mpr ⟨h1, decide_eq_true h2⟩, by rw [e]⟩
theorem mem_edgeL (ok : OkTree t) {ys : List Str} (hy : ∀ y, y ∈ ys ↔ y ∈ t.map (·.1)) {a b : Str} : (a, b) ∈ edgeL t ys ↔ Nb t a b ∧ sLt a b := by
  unfold edgeL
  rw [List.mem_flatMap]
  constructor
  · rintro ⟨y, hm, h⟩
    obtain ⟨e, h1, h2⟩ := mem_upE.mp h
    obtain ⟨r, hr, er⟩ := List.mem_map.mp ((hy y).mp hm)
    subst er
    subst e
    rw [ok.nbAt hr] at h1
    exact ⟨⟨r, hr, rfl, h1⟩, h2⟩
  · rintro ⟨⟨r, hr, e, h1⟩, h2⟩
    subst e
    exact ⟨r.1, (hy _).mpr (List.mem_map.mpr ⟨r, hr, rfl⟩), mem_upE.mpr ⟨rfl, by rw [ok.nbAt hr]; exact h1, h2⟩⟩
def ltP (p q : Str × Str) : Prop := sLt p.1 q.1 ∨ (p.1 = q.1 ∧ sLt p.2 q.2)
theorem sLt_of {a b : Str} (h : ¬ sLt b a) (ne : a ≠ b) : sLt a b := Decidable.byContradiction fun z => ne (sLt_tri h z)
/-- strictly ascending -/
theorem edgeL_asc (ok : OkTree t) : ∀ {ys : List Str}, ys.Pairwise (fun a b => ¬ sLt b a) → ys.Nodup → (∀ y ∈ ys, y ∈ t.map (·.1)) → (edgeL t ys).Pairwise ltP
  | [], _, _, _ => .nil
  | y :: ys, so, nd, h => by
    have n2 := List.nodup_cons.mp nd
    show (upE y (nbO t y) ++ edgeL t ys).Pairwise ltP
    refine List.pairwise_append.mpr ⟨?_, edgeL_asc ok (List.Pairwise.of_cons so) n2.2 fun z hz => h z (List.mem_cons_of_mem _ hz), fun p hp q hq => ?_⟩
    · obtain ⟨r, hr, er⟩ := List.mem_map.mp (h y List.mem_cons_self)
      subst er
      rw [ok.nbAt hr]
      have asc := ok.asc r hr
      unfold upE
      refine List.pairwise_map.mpr (List.Pairwise.filter _ ?_)
      have go : ∀ l : List Str, l.Pairwise (fun a b => ¬ sLt b a) → l.Nodup → l.Pairwise fun a b => ltP (r.1, a) (r.1, b) := fun l => by
        induction l with
        | nil => intro _ _; exact .nil
        | cons a l ih =>
          intro h1 h2
          have h3 := List.nodup_cons.mp h2
          exact List.pairwise_cons.mpr ⟨fun b hb => .inr ⟨rfl, sLt_of (List.rel_of_pairwise_cons h1 hb) fun e => h3.1 (by rw [show a = b from e]; exact hb)⟩, ih (List.Pairwise.of_cons h1) h3.2⟩
      exact go _ (sortedS_pw asc.1) asc.2
    · obtain ⟨a, b⟩ := p
      obtain ⟨c, d⟩ := q
      have e1 := (mem_upE.mp hp).1
      unfold edgeL at hq
      obtain ⟨z, hz, hq⟩ := List.mem_flatMap.mp hq
      have e2 := (mem_upE.mp hq).1
      subst e1 e2
      exact .inl (sLt_of (List.rel_of_pairwise_cons so hz) fun e => n2.1 (by rw [show a = c from e]; exact hz))
theorem ltP_irr (p : Str × Str) : ¬ ltP p p := fun h => by
  rcases h with h | ⟨_, h⟩
  · exact sLt_irrefl _ h
  · exact sLt_irrefl _ h
theorem ltP_asym {p q : Str × Str} (h : ltP p q) : ¬ ltP q p := fun k => by
  have a := lexS_iff.mpr h
  have b := lexS_iff.mpr k
  have := (swo_lexS (α := Str × Str) id).asym p q a
  rw [show lexS (id q) (id p) = lexS q p from rfl, b] at this
  cases this
/-- one list only -/
theorem asc_one : ∀ {l m : List (Str × Str)}, l.Pairwise ltP → m.Pairwise ltP → (∀ p, p ∈ l ↔ p ∈ m) → l = m
  | [], [], _, _, _ => rfl
  | a :: l, [], _, _, h => absurd ((h a).mp List.mem_cons_self) List.not_mem_nil
  | [], b :: m, _, _, h => absurd ((h b).mpr List.mem_cons_self) List.not_mem_nil
  | a :: l, b :: m, hl, hm, h => by
    have hl2 := List.pairwise_cons.mp hl
    have hm2 := List.pairwise_cons.mp hm
    have e : a = b := by
      rcases List.mem_cons.mp ((h a).mp List.mem_cons_self) with z | z
      · exact z
      · rcases List.mem_cons.mp ((h b).mpr List.mem_cons_self) with y | y
        · exact y.symm
        · exact (ltP_asym (hm2.1 a z) (hl2.1 b y)).elim
    subst e
    rw [asc_one hl2.2 hm2.2 fun p => ⟨fun hp => ?_, fun hp => ?_⟩]
    · rcases List.mem_cons.mp ((h p).mp (List.mem_cons_of_mem _ hp)) with z | z
      · rw [z] at hp
        exact (ltP_irr _ (hl2.1 _ hp)).elim
      · exact z
    · rcases List.mem_cons.mp ((h p).mpr (List.mem_cons_of_mem _ hp)) with z | z
      · rw [z] at hp
        exact (ltP_irr _ (hm2.1 _ hp)).elim
      · exact z
/-- both ends under their other names, the less first -/
def ordP (a b : Str) : Str × Str := if sLt b a then (b, a) else (a, b)
theorem ordP_of {ys : List Str} {a b : Str} (pm : ys.Perm [a, b]) (so : sortedS ys = true) : ys = [(ordP a b).1, (ordP a b).2] := by
  have pw := sortedS_pw so
  have l := pm.length_eq
  match ys, l with
  | [c, d], _ =>
    have h := List.rel_of_pairwise_cons pw (List.mem_cons_self (a := d) (l := []))
    have hc : c = a ∨ c = b := by
      have := pm.subset (List.mem_cons_self (a := c) (l := [d]))
      simpa using this
    unfold ordP
    rcases hc with rfl | rfl
    · have e : [d].Perm [b] := (List.perm_cons c).mp pm
      have e2 : d = b := by simpa using e.subset List.mem_cons_self
      subst e2
      rw [if_neg h]
    · have e : [d].Perm [a] := (List.perm_cons c).mp (pm.trans (List.Perm.swap c a []))
      have e2 : d = a := by simpa using e.subset List.mem_cons_self
      subst e2
      by_cases q : sLt c d
      · rw [if_pos q]
      · rw [if_neg q, sLt_tri q h]
theorem ren_edges (R : Ren t mt ρ) (ok : OkTree t) (okm : OkTree mt) {ys zs : List Str} (hy : ys.Perm (t.map (·.1))) (hz : zs.Perm (mt.map (·.1))) (so : sortedS zs = true) {out : List (Str × Str)}
    (po : out.Perm ((edgeL t ys).map fun q => ordP (ρ q.1) (ρ q.2))) (ho : out.Pairwise fun x y => lexS y x = false) : edgeL mt zs = out := by
  have inY : ∀ y, y ∈ ys ↔ y ∈ t.map (·.1) := fun y => hy.mem_iff
  have inZ : ∀ y, y ∈ zs ↔ y ∈ mt.map (·.1) := fun y => hz.mem_iff
  have ne : ∀ {a b : Str}, Nb t a b → ρ a ≠ ρ b := fun {a b} h e => by
    obtain ⟨r, hr, er⟩ := h.left
    obtain ⟨s, hs, es⟩ := h.right ok
    have := R.inj r hr s hs (by rw [er, es, e])
    obtain ⟨q, hq, eq, hm⟩ := h
    exact ok.self q hq (by rw [eq, ← er, this, es]; exact hm)
  have mem : ∀ p, p ∈ edgeL mt zs ↔ p ∈ out := fun p => by
    obtain ⟨u, w⟩ := p
    rw [mem_edgeL okm inZ, po.mem_iff, List.mem_map]
    constructor
    · rintro ⟨⟨r, hr, er, hm⟩, lt⟩
      obtain ⟨s, hs, q, hq, e1, e2, h⟩ := (R.nb ok hr w).mp hm
      rw [er] at e1
      subst e1 e2
      have nb : Nb t s.1 q.1 := ⟨s, hs, rfl, h⟩
      by_cases c : sLt s.1 q.1
      · refine ⟨(s.1, q.1), (mem_edgeL ok inY).mpr ⟨nb, c⟩, ?_⟩
        show ordP (ρ s.1) (ρ q.1) = _
        unfold ordP
        rw [if_neg (sLt_asymm lt)]
      · have nb' : Nb t q.1 s.1 := ⟨q, hq, rfl, ok.sym s hs q hq h⟩
        have c' : sLt q.1 s.1 := sLt_of c fun e => ne nb (by rw [e])
        refine ⟨(q.1, s.1), (mem_edgeL ok inY).mpr ⟨nb', c'⟩, ?_⟩
        show ordP (ρ q.1) (ρ s.1) = _
        unfold ordP
        rw [if_pos lt]
    · rintro ⟨⟨a, b⟩, hab, e⟩
      obtain ⟨nb, c⟩ := (mem_edgeL ok inY).mp hab
      have n' := ne nb
      have e : ordP (ρ a) (ρ b) = (u, w) := e
      unfold ordP at e
      by_cases q : sLt (ρ b) (ρ a)
      · rw [if_pos q] at e
        injection e with e1 e2
        subst e1 e2
        obtain ⟨r, hr, er, hm⟩ := nb
        obtain ⟨s, hs, es⟩ := ok.nbs r hr b hm
        exact ⟨R.nbUp ok ⟨s, hs, es, er ▸ ok.sym r hr s hs (by rw [es]; exact hm)⟩, q⟩
      · rw [if_neg q] at e
        injection e with e1 e2
        subst e1 e2
        exact ⟨R.nbUp ok nb, sLt_of q n'⟩
  have zn : zs.Nodup := hz.symm.nodup okm.nodup
  have yn : ys.Nodup := hy.symm.nodup ok.nodup
  have a1 := edgeL_asc okm (sortedS_pw so) zn fun y h => (inZ y).mp h
  refine asc_one a1 ?_ mem
  -- each once
  have ndE : (edgeL t ys).Nodup := by
    unfold edgeL
    have go : ∀ l : List Str, l.Nodup → (∀ y ∈ l, y ∈ t.map (·.1)) → (l.flatMap fun y => upE y (nbO t y)).Nodup := fun l => by
      induction l with
      | nil => intro _ _; exact .nil
      | cons y l ih =>
        intro nd hin
        have n2 := List.nodup_cons.mp nd
        rw [List.flatMap_cons]
        refine List.nodup_append.mpr ⟨?_, ih n2.2 fun z hz => hin z (List.mem_cons_of_mem _ hz), fun p hp q hq e => ?_⟩
        · obtain ⟨r, hr, er⟩ := List.mem_map.mp (hin y List.mem_cons_self)
          subst er
          rw [ok.nbAt hr]
          unfold upE
          exact nd_mapOn ((ok.asc r hr).2.sublist List.filter_sublist) fun a _ b _ e => by injection e
        · obtain ⟨a, b⟩ := p
          subst e
          obtain ⟨z, hz, hq⟩ := List.mem_flatMap.mp hq
          have e1 := (mem_upE.mp hp).1
          have e2 := (mem_upE.mp hq).1
          exact n2.1 (by rw [← e1, e2]; exact hz)
    exact go ys yn fun y h => (inY y).mp h
  have ndO : out.Nodup := by
    refine po.symm.nodup (nd_mapOn ndE fun p hp q hq e => ?_)
    obtain ⟨a, b⟩ := p
    obtain ⟨c, d⟩ := q
    obtain ⟨n1, l1⟩ := (mem_edgeL ok inY).mp hp
    obtain ⟨n2, l2⟩ := (mem_edgeL ok inY).mp hq
    obtain ⟨ra, hra, era⟩ := n1.left
    obtain ⟨rb, hrb, erb⟩ := n1.right ok
    obtain ⟨rc, hrc, erc⟩ := n2.left
    obtain ⟨rd, hrd, erd⟩ := n2.right ok
    have inj : ∀ {r s : Row}, r ∈ t → s ∈ t → ρ r.1 = ρ s.1 → r.1 = s.1 := fun h1 h2 e => R.inj _ h1 _ h2 e
    subst era erb erc erd
    have e : ordP (ρ ra.1) (ρ rb.1) = ordP (ρ rc.1) (ρ rd.1) := e
    unfold ordP at e
    by_cases p1 : sLt (ρ rb.1) (ρ ra.1) <;> by_cases p2 : sLt (ρ rd.1) (ρ rc.1)
    · rw [if_pos p1, if_pos p2] at e
      injection e with e1 e2
      rw [inj hra hrc e2, inj hrb hrd e1]
    · rw [if_pos p1, if_neg p2] at e
      injection e with e1 e2
      rw [inj hrb hrc e1, inj hra hrd e2] at l1
      exact (sLt_asymm l1 l2).elim
    · rw [if_neg p1, if_pos p2] at e
      injection e with e1 e2
      rw [inj hra hrd e1, inj hrb hrc e2] at l1
      exact (sLt_asymm l1 l2).elim
    · rw [if_neg p1, if_neg p2] at e
      injection e with e1 e2
      rw [inj hra hrc e1, inj hrb hrd e2]
  have go : ∀ l : List (Str × Str), l.Pairwise (fun x y => lexS y x = false) → l.Nodup → l.Pairwise ltP := fun l => by
    induction l with
    | nil => intro _ _; exact .nil
    | cons a l ih =>
      intro h1 h2
      have h3 := List.nodup_cons.mp h2
      refine List.pairwise_cons.mpr ⟨fun b hb => ?_, ih (List.Pairwise.of_cons h1) h3.2⟩
      have nl := lexS_no.mp (List.rel_of_pairwise_cons h1 hb)
      have ab : a ≠ b := fun e => h3.1 (e ▸ hb)
      by_cases q : a.1 = b.1
      · refine .inr ⟨q, sLt_of (fun z => nl (.inr ⟨q.symm, z⟩)) fun e => ab ?_⟩
        cases a; cases b
        exact Prod.ext q e
      · exact .inl (sLt_of (fun z => nl (.inl z)) q)
  exact go out ho ndO
/-- one edge less than nodes -/
theorem edgeL_count (ok : OkTree t) {ys : List Str} (hy : ys.Perm (t.map (·.1))) : (edgeL t ys).length + 1 = t.length := by
  have len : ∀ l : List Str, (edgeL t l).length = (l.map fun y => ((nbO t y).filter fun z => decide (sLt y z)).length).sum := fun l => by
    induction l with
    | nil => rfl
    | cons y l ih =>
      show (upE y (nbO t y) ++ edgeL t l).length = _
      rw [List.length_append, ih, List.map_cons, List.sum_cons]
      unfold upE
      rw [List.length_map]
  have e1 : (edgeL t ys).length = ((t.map (·.1)).map fun y => ((nbO t y).filter fun z => decide (sLt y z)).length).sum := by
    rw [len, perm_sum' (hy.map _)]
  have up : (edgeL t (t.map (·.1))).length = (edgeL t ys).length := by rw [len, e1]
  -- up and down
  have split : ((edgesD t).filter fun q => decide (sLt q.1 q.2)).length + ((edgesD t).filter fun q => !decide (sLt q.1 q.2)).length = (edgesD t).length := by
    induction edgesD t with
    | nil => rfl
    | cons a l ih =>
      by_cases h : sLt a.1 a.2
      · simp only [List.filter_cons, h, decide_true, if_true, Bool.not_true, Bool.false_eq_true, if_false, List.length_cons]
        omega
      · simp only [List.filter_cons, h, decide_false, if_false, Bool.not_false, if_true, List.length_cons, Bool.false_eq_true]
        omega
  have ndD : (edgesD t).Nodup := by
    unfold edgesD
    have go : ∀ l : List Row, (∀ r ∈ l, r ∈ t) → (l.map (·.1)).Nodup → (l.flatMap fun r => r.2.2.map fun y => (r.1, y)).Nodup := fun l => by
      induction l with
      | nil => intro _ _; exact .nil
      | cons r l ih =>
        intro hin nd
        rw [List.map_cons] at nd
        have n2 := List.nodup_cons.mp nd
        rw [List.flatMap_cons]
        refine List.nodup_append.mpr ⟨nd_mapOn (ok.asc r (hin r List.mem_cons_self)).2 fun a _ b _ e => by injection e, ih (fun s hs => hin s (List.mem_cons_of_mem _ hs)) n2.2, fun p hp q hq e => ?_⟩
        subst e
        obtain ⟨y, _, e1⟩ := List.mem_map.mp hp
        obtain ⟨s, hs, hq⟩ := List.mem_flatMap.mp hq
        obtain ⟨z, _, e2⟩ := List.mem_map.mp hq
        rw [← e1] at e2
        injection e2 with e2 _
        exact n2.1 (List.mem_map.mpr ⟨s, hs, e2⟩)
    exact go t (fun r hr => hr) ok.nodup
  have swap : ((edgesD t).filter fun q => !decide (sLt q.1 q.2)).length = ((edgesD t).filter fun q => decide (sLt q.1 q.2)).length := by
    have nbS : ∀ {a b : Str}, Nb t a b → Nb t b a := fun {a b} ⟨r, hr, er, hm⟩ => by
      obtain ⟨s, hs, es⟩ := ok.nbs r hr b hm
      exact ⟨s, hs, es, er ▸ ok.sym r hr s hs (by rw [es]; exact hm)⟩
    have irr : ∀ {a b : Str}, Nb t a b → a ≠ b := fun {a b} ⟨r, hr, er, hm⟩ e => ok.self r hr (by rw [er, e]; exact hm)
    have half : ∀ (f g : Str × Str → Bool), (∀ a b, Nb t a b → f (a, b) = true → g (b, a) = true) → ((edgesD t).filter f).length ≤ ((edgesD t).filter g).length := fun f g h => by
      have nd : (((edgesD t).filter f).map fun q => (q.2, q.1)).Nodup := nd_mapOn (ndD.sublist List.filter_sublist) fun a _ b _ e => by
        injection e with e1 e2
        exact Prod.ext e2 e1
      have := StepsOk.par.pigeon (ys := (edgesD t).filter g) nd fun y hy => by
        obtain ⟨q, hq, e⟩ := List.mem_map.mp hy
        obtain ⟨h1, h2⟩ := List.mem_filter.mp hq
        have nb := mem_edgesD.mp (show (q.1, q.2) ∈ edgesD t from h1)
        rw [← e]
        exact List.mem_filter.mpr ⟨mem_edgesD.mpr (nbS nb), h q.1 q.2 nb h2⟩
      rw [List.length_map] at this
      exact this
    refine Nat.le_antisymm (half _ _ fun a b nb h => ?_) (half _ _ fun a b nb h => ?_)
    · have h' : ¬ sLt a b := fun z => by
        have : (!decide (sLt a b)) = true := h
        rw [decide_eq_true z] at this
        cases this
      exact decide_eq_true (sLt_of h' (irr nb).symm)
    · have h' : sLt a b := of_decide_eq_true h
      show (!decide (sLt b a)) = true
      rw [decide_eq_false (sLt_asymm h')]
      rfl
  have upD : (edgeL t (t.map (·.1))).length = ((edgesD t).filter fun q => decide (sLt q.1 q.2)).length := by
    rw [len]
    have go : ∀ l : List Row, (∀ r ∈ l, r ∈ t) → ((l.map (·.1)).map fun y => ((nbO t y).filter fun z => decide (sLt y z)).length).sum = ((l.flatMap fun r => r.2.2.map fun y => (r.1, y)).filter fun q => decide (sLt q.1 q.2)).length := fun l => by
      induction l with
      | nil => intro _; rfl
      | cons r l ih =>
        intro hin
        rw [List.map_cons, List.map_cons, List.sum_cons, ih fun s hs => hin s (List.mem_cons_of_mem _ hs), List.flatMap_cons, List.filter_append, List.length_append, ok.nbAt (hin r List.mem_cons_self), List.filter_map, List.length_map]
        rfl
    exact go t fun r hr => hr
  have l2 := ok.ends
  have l3 := len_edgesD t
  omega
end
end A8
set_option Elab.async false
set_option linter.all false
set_option maxRecDepth 100000
set_option maxHeartbeats 4000000
namespace A8
open PySem PySem.Spec PyProof.Rows L2 AL
/-! ### texts put together and taken apart -/
theorem at_sep {c : Nat} : ∀ {a b s t : List Nat}, c ∉ a → c ∉ b → a ++ c :: s = b ++ c :: t → a = b ∧ s = t
  | [], [], s, t, _, _, h => ⟨rfl, (List.cons.inj h).2⟩
  | [], y :: b, s, t, _, hb, h => absurd (show c ∈ y :: b by rw [(List.cons.inj h).1]; exact List.mem_cons_self) hb
  | x :: a, [], s, t, ha, _, h => absurd (show c ∈ x :: a by rw [← (List.cons.inj h).1]; exact List.mem_cons_self) ha
  | x :: a, y :: b, s, t, ha, hb, h => by
    obtain ⟨e, r⟩ := List.cons.inj h
    obtain ⟨e2, r2⟩ := at_sep (fun z => ha (List.mem_cons_of_mem _ z)) (fun z => hb (List.mem_cons_of_mem _ z)) r
    exact ⟨by rw [e, e2], r2⟩
theorem cps_app (a b : Str) : (a ++ b).cps.toList = a.cps.toList ++ b.cps.toList := by
  show (a.cps ++ b.cps).toList = _
  exact Array.toList_append
theorem str_eq {a b : Str} (h : a.cps.toList = b.cps.toList) : a = b := str_ext h
theorem join_cons (c : Nat) (x y : Str) (r : List Str) : (Str.join ⟨#[c]⟩ (x :: y :: r)).cps.toList = x.cps.toList ++ c :: (Str.join ⟨#[c]⟩ (y :: r)).cps.toList := by
  show (x ++ (⟨#[c]⟩ : Str) ++ Str.join ⟨#[c]⟩ (y :: r)).cps.toList = _
  rw [cps_app, cps_app, List.append_assoc]
  rfl
theorem join_inj (c : Nat) : ∀ {ys zs : List Str}, ys ≠ [] → zs ≠ [] → (∀ y ∈ ys, c ∉ y.cps.toList) → (∀ y ∈ zs, c ∉ y.cps.toList) → Str.join ⟨#[c]⟩ ys = Str.join ⟨#[c]⟩ zs → ys = zs
  | [], _, h, _, _, _, _ => absurd rfl h
  | _, [], _, h, _, _, _ => absurd rfl h
  | [y], [z], _, _, _, _, h => by
    have h : y = z := h
    rw [h]
  | [y], z :: z' :: r, _, _, hy, _, h => by
    have h2 : y.cps.toList = _ := congrArg (fun s : Str => s.cps.toList) h
    have h2 : y.cps.toList = (Str.join ⟨#[c]⟩ (z :: z' :: r)).cps.toList := h2
    rw [join_cons] at h2
    exact absurd (by rw [h2]; exact List.mem_append_right _ List.mem_cons_self) (hy y List.mem_cons_self)
  | y :: y' :: r, [z], _, _, _, hz, h => by
    have h2 := congrArg (fun s : Str => s.cps.toList) h
    have h2 : (Str.join ⟨#[c]⟩ (y :: y' :: r)).cps.toList = z.cps.toList := h2
    rw [join_cons] at h2
    exact absurd (by rw [← h2]; exact List.mem_append_right _ List.mem_cons_self) (hz z List.mem_cons_self)
  | y :: y' :: r, z :: z' :: s, _, _, hy, hz, h => by
    have h2 := congrArg (fun s : Str => s.cps.toList) h
    have h2 : (Str.join ⟨#[c]⟩ (y :: y' :: r)).cps.toList = (Str.join ⟨#[c]⟩ (z :: z' :: s)).cps.toList := h2
    rw [join_cons, join_cons] at h2
    obtain ⟨e, e2⟩ := at_sep (hy y List.mem_cons_self) (hz z List.mem_cons_self) h2
    have := join_inj c (ys := y' :: r) (zs := z' :: s) (by simp) (by simp) (fun a ha => hy a (List.mem_cons_of_mem _ ha)) (fun a ha => hz a (List.mem_cons_of_mem _ ha)) (str_eq e2)
    rw [str_eq e, this]
theorem split_join {c : Nat} {ys : List Str} (ne : ys ≠ []) (free : ∀ y ∈ ys, c ∉ y.cps.toList) : Txt.split (Txt.join ⟨#[c]⟩ ys) ⟨#[c]⟩ = ys := by
  rw [TL.join_eq]
  refine join_inj c (fun z => ?_) ne (StrLaws.split_free _ c) free (StrLaws.join_split _ _)
  have := PyProof.Rows.split_pos (Str.join ⟨#[c]⟩ ys) ⟨#[c]⟩
  rw [z] at this
  exact absurd this (by decide)
theorem name_free {x : Str} {c : Nat} (h : NameOk x) (hc : c < 97) : c ∉ x.cps.toList := fun z => by
  have := (h.2.2 c z).1
  omega
theorem len_app (a b : Str) : (a ++ b).length = a.length + b.length := Str.length_append a b
theorem name_len {x : Str} (h : NameOk x) : x.length ≤ 8 := h.2.1
theorem sum_names {k : Nat} : ∀ {ys : List Str}, (∀ y ∈ ys, y.length ≤ k) → (ys.map (·.length)).sum ≤ k * ys.length
  | [], _ => Nat.zero_le _
  | y :: r, h => by
    have h1 := h y List.mem_cons_self
    have h2 := sum_names (k := k) (ys := r) fun z hz => h z (List.mem_cons_of_mem _ hz)
    rw [List.map_cons, List.sum_cons, List.length_cons, Nat.mul_add]
    omega
theorem join_len {c k : Nat} {ys : List Str} (h : ∀ y ∈ ys, y.length ≤ k) : (Txt.join ⟨#[c]⟩ ys).length ≤ (k + 1) * ys.length := by
  rw [TL.join_eq]
  have h1 := StrLaws.join_length_le ⟨#[c]⟩ ys
  have h2 := sum_names h
  have h3 : (⟨#[c]⟩ : Str).length = 1 := rfl
  rw [h3, Nat.mul_one] at h1
  rw [Nat.add_mul]
  omega
theorem sp_eq : (" " : Str) = ⟨#[32]⟩ := by decide +kernel
theorem da_eq : ("-" : Str) = ⟨#[45]⟩ := by decide +kernel
/-! ### an edge as a text -/
def edgeT (q : Str × Str) : Str := (q.1 ++ "-") ++ q.2
theorem edgeT_cps (q : Str × Str) : (edgeT q).cps.toList = q.1.cps.toList ++ 45 :: q.2.cps.toList := by
  unfold edgeT
  rw [cps_app, cps_app, da_eq, List.append_assoc]
  rfl
theorem pre_one (l : List Nat) (c : Nat) : TL.pre [45] (c :: l) = (c == 45) := by
  show ([c] == [45]) = (c == 45)
  simp
theorem par_dash : ∀ {a b acc : List Nat}, 45 ∉ a → TL.par [45] acc (a ++ 45 :: b) = some (acc ++ a, b)
  | [], b, acc, _ => by
    show (if TL.pre [45] (45 :: b) = true then some (acc, (45 :: b).drop 1) else _) = _
    rw [pre_one, if_pos (by rfl), List.append_nil]
    rfl
  | x :: a, b, acc, h => by
    show (if TL.pre [45] (x :: (a ++ 45 :: b)) = true then some (acc, _) else TL.par [45] (acc ++ [x]) (a ++ 45 :: b)) = _
    have nx : ¬ x = 45 := fun z => h (by rw [z]; exact List.mem_cons_self)
    rw [pre_one, if_neg (by simpa using nx), par_dash fun z => h (List.mem_cons_of_mem _ z), List.append_assoc]
    rfl
theorem edge_part {x y : Str} (hx : NameOk x) : Txt.partition (edgeT (x, y)) "-" = (x, ("-" : Str), y) := by
  have h := TL.partition_par (edgeT (x, y)) "-" (by rw [da_eq]; exact List.cons_ne_nil _ _)
  have e : TL.tl (edgeT (x, y)) = TL.tl x ++ 45 :: TL.tl y := edgeT_cps (x, y)
  have d : TL.tl "-" = [45] := by rw [da_eq]
  rw [h, e, d, par_dash (name_free hx (by decide)), List.nil_append]
theorem edge_free {x y : Str} {c : Nat} (hx : NameOk x) (hy : NameOk y) (hc : c < 45) : c ∉ (edgeT (x, y)).cps.toList := fun z => by
  rw [edgeT_cps] at z
  rcases List.mem_append.mp z with w | w
  · exact name_free hx (by omega) w
  · rcases List.mem_cons.mp w with w | w
    · omega
    · exact name_free hy (by omega) w
theorem edge_dash (q : Str × Str) : 45 ∈ (edgeT q).cps.toList := by
  rw [edgeT_cps]
  exact List.mem_append_right _ List.mem_cons_self
theorem lt_app {a b c d : List Nat} (hb : ∀ z ∈ b, 45 < z) (h : a < b) : a ++ 45 :: c < b ++ 45 :: d := by
  induction h with
  | nil => exact .rel (hb _ List.mem_cons_self)
  | rel h => exact .rel h
  | cons _ ih => exact .cons (ih fun z hz => hb z (List.mem_cons_of_mem _ hz))
theorem lt_pre {c d : List Nat} (h : c < d) : ∀ a : List Nat, a ++ 45 :: c < a ++ 45 :: d
  | [] => .cons h
  | _ :: a => .cons (lt_pre h a)
/-- edges in order -/
def eLt (p q : Str × Str) : Prop := sLt p.1 q.1 ∨ (p.1 = q.1 ∧ sLt p.2 q.2)
theorem edge_lt {p q : Str × Str} (hq : NameOk q.1) (h : eLt p q) : sLt (edgeT p) (edgeT q) := by
  show (edgeT p).cps.toList < (edgeT q).cps.toList
  rw [edgeT_cps, edgeT_cps]
  rcases h with h | ⟨e, h⟩
  · exact lt_app (fun z hz => by have := (hq.2.2 z hz).1; omega) h
  · rw [e]
    exact lt_pre h _
theorem strict {l : List Str} (h : sortedS l = true) (nd : l.Nodup) : l.Pairwise sLt := by
  refine (sortedS_pw h).imp₂ (fun {a b} hab hne => ?_) nd
  by_cases c : sLt a b
  · exact c
  · exact (hne (sLt_tri hab c)).elim
/-! ### the edges of a tree -/
section
variable {t : List Row} {ys : List Str}
theorem mem_upE7 {y u : Str} {zs : List Str} {a : Str} : (a, u) ∈ upE y zs ↔ a = y ∧ u ∈ zs ∧ sLt y u := by
  unfold upE
  rw [List.mem_map]
  constructor
  · rintro ⟨z, hz, e⟩
    have h := List.mem_filter.mp hz
    cases e
    exact ⟨rfl, h.1, of_decide_eq_true h.2⟩
  · rintro ⟨rfl, h1, h2⟩
    exact ⟨u, List.mem_filter.mpr ⟨h1, decide_eq_true h2⟩, rfl⟩
theorem mem_edgeL7 {a u : Str} : (a, u) ∈ edgeL t ys ↔ a ∈ ys ∧ u ∈ nbO t a ∧ sLt a u := by
  unfold edgeL
  rw [List.mem_flatMap]
  constructor
  · rintro ⟨y, hy, h⟩
    obtain ⟨rfl, h1, h2⟩ := mem_upE7.mp h
    exact ⟨hy, h1, h2⟩
  · rintro ⟨h0, h1, h2⟩
    exact ⟨a, h0, mem_upE7.mpr ⟨rfl, h1, h2⟩⟩
theorem nbO_ok (ok : OkTree t) {a u : Str} (h : u ∈ nbO t a) : ∃ r ∈ t, r.1 = a ∧ u ∈ r.2.2 := by
  unfold nbO at h
  cases q : t.find? (fun r => decide (r.1 = a)) with
  | none => rw [q] at h; exact absurd h List.not_mem_nil
  | some r =>
    rw [q] at h
    exact ⟨r, List.mem_of_find?_eq_some q, by simpa using List.find?_some q, h⟩
theorem nbO_sym (ok : OkTree t) {a u : Str} (h : u ∈ nbO t a) : a ∈ nbO t u ∧ u ∈ t.map (·.1) := by
  obtain ⟨r, hr, er, hu⟩ := nbO_ok ok h
  obtain ⟨s, hs, es⟩ := ok.nbs r hr u hu
  have := ok.sym r hr s hs (by rw [es]; exact hu)
  refine ⟨?_, List.mem_map.mpr ⟨s, hs, es⟩⟩
  rw [← es, ok.nbAt hs, ← er]
  exact this
theorem nbO_ne (ok : OkTree t) {a u : Str} (h : u ∈ nbO t a) : u ≠ a := fun z => by
  obtain ⟨r, hr, er, hu⟩ := nbO_ok ok h
  exact ok.self r hr (by rw [er, ← z]; exact hu)
theorem edge_names (ok : OkTree t) {q : Str × Str} (h : q ∈ edgeL t ys) : NameOk q.1 ∧ NameOk q.2 := by
  obtain ⟨a, u⟩ := q
  obtain ⟨_, h1, _⟩ := mem_edgeL7.mp h
  obtain ⟨r, hr, er, _⟩ := nbO_ok ok h1
  obtain ⟨_, h2⟩ := nbO_sym ok h1
  obtain ⟨s, hs, es⟩ := List.mem_map.mp h2
  exact ⟨er ▸ ok.names r hr, es ▸ ok.names s hs⟩
theorem edges_pw (ok : OkTree t) (so : sortedS ys = true) (nd : ys.Nodup) (hy : ∀ y ∈ ys, y ∈ t.map (·.1)) : (edgeL t ys).Pairwise eLt := by
  unfold edgeL
  rw [List.pairwise_flatMap]
  refine ⟨fun y hy' => ?_, (strict so nd).imp fun {a b} hab p hp q hq => ?_⟩
  · obtain ⟨r, hr, er⟩ := List.mem_map.mp (hy y hy')
    have er : r.1 = y := er
    unfold upE
    rw [← er, ok.nbAt hr, List.pairwise_map]
    exact ((strict (ok.asc r hr).1 (ok.asc r hr).2).filter _).imp fun h => .inr ⟨rfl, h⟩
  · obtain ⟨p1, p2⟩ := p
    obtain ⟨q1, q2⟩ := q
    obtain ⟨rfl, _, _⟩ := mem_upE7.mp hp
    obtain ⟨rfl, _, _⟩ := mem_upE7.mp hq
    exact .inl hab
/-- who stands at the other end of the edges of v -/
def incs (E : List (Str × Str)) (v : Str) : List Str := E.flatMap fun q => (if q.1 = v then [q.2] else []) ++ if q.2 = v then [q.1] else []
theorem incs_snoc (E : List (Str × Str)) (q : Str × Str) (v : Str) : incs (E ++ [q]) v = incs E v ++ ((if q.1 = v then [q.2] else []) ++ if q.2 = v then [q.1] else []) := by
  unfold incs
  rw [List.flatMap_append]
  simp
theorem mem_incs {E : List (Str × Str)} {v z : Str} : z ∈ incs E v ↔ (v, z) ∈ E ∨ (z, v) ∈ E := by
  unfold incs
  rw [List.mem_flatMap]
  constructor
  · rintro ⟨q, hq, h⟩
    rcases List.mem_append.mp h with h | h
    · by_cases c : q.1 = v
      · rw [if_pos c] at h
        left
        rw [List.mem_singleton.mp h, ← c]
        exact hq
      · rw [if_neg c] at h
        exact absurd h List.not_mem_nil
    · by_cases c : q.2 = v
      · rw [if_pos c] at h
        right
        rw [List.mem_singleton.mp h, ← c]
        exact hq
      · rw [if_neg c] at h
        exact absurd h List.not_mem_nil
  · rintro (h | h)
    · exact ⟨_, h, List.mem_append_left _ (by rw [if_pos rfl]; exact List.mem_singleton.mpr rfl)⟩
    · exact ⟨_, h, List.mem_append_right _ (by rw [if_pos rfl]; exact List.mem_singleton.mpr rfl)⟩
theorem incs_pw : ∀ {E : List (Str × Str)} {v : Str}, E.Pairwise eLt → (∀ q ∈ E, sLt q.1 q.2) → (incs E v).Pairwise sLt := fun {E v} h lt => by
  unfold incs
  rw [List.pairwise_flatMap]
  have up : ∀ q ∈ E, ∀ z, z ∈ ((if q.1 = v then [q.2] else []) ++ if q.2 = v then [q.1] else []) → (q.1 = v ∧ z = q.2) ∨ (q.2 = v ∧ z = q.1) := fun q _ z hz => by
    rcases List.mem_append.mp hz with h | h
    · by_cases c : q.1 = v
      · rw [if_pos c] at h
        exact .inl ⟨c, List.mem_singleton.mp h⟩
      · rw [if_neg c] at h
        exact absurd h List.not_mem_nil
    · by_cases c : q.2 = v
      · rw [if_pos c] at h
        exact .inr ⟨c, List.mem_singleton.mp h⟩
      · rw [if_neg c] at h
        exact absurd h List.not_mem_nil
  refine ⟨fun q hq => ?_, ?_⟩
  · by_cases c : q.1 = v
    · have n : ¬ q.2 = v := fun z => by
        have := lt q hq
        rw [c, z] at this
        exact sLt_irrefl _ this
      rw [if_pos c, if_neg n]
      exact List.pairwise_singleton _ _
    · rw [if_neg c, List.nil_append]
      split
      · exact List.pairwise_singleton _ _
      · exact .nil
  · refine List.Pairwise.imp_of_mem ?_ h
    intro p q hp hq hpq x hx z hz
    have lp := lt p hp
    have lq := lt q hq
    have tr : ∀ {a b c : Str}, sLt a b → sLt b c → sLt a c := fun {a b c} h1 h2 => List.lt_trans (show a.cps.toList < b.cps.toList from h1) h2
    rcases up p hp x hx with ⟨e1, e2⟩ | ⟨e1, e2⟩ <;> rcases up q hq z hz with ⟨f1, f2⟩ | ⟨f1, f2⟩
    · rw [e2, f2]
      rcases hpq with h | ⟨_, h⟩
      · rw [e1, f1] at h
        exact (sLt_irrefl _ h).elim
      · exact h
    · -- p = (v, x), q = (z, v): p before q
      rcases hpq with h | ⟨h, _⟩
      · rw [e1, ← f1] at h
        exact (sLt_asymm h lq).elim
      · rw [e1] at h
        rw [← h, f1] at lq
        exact (sLt_irrefl _ lq).elim
    · rw [e2, f2]
      rw [e1, ← f1] at lp
      exact tr lp lq
    · rw [e2, f2]
      rcases hpq with h | ⟨h, k⟩
      · exact h
      · rw [e1, f1] at k
        exact (sLt_irrefl _ k).elim
theorem pw_nodup {l : List Str} (h : l.Pairwise sLt) : l.Nodup := h.imp fun {a b} hab e => by rw [e] at hab; exact sLt_irrefl _ hab
theorem pw_weak {l : List Str} (h : l.Pairwise sLt) : l.Pairwise fun a b => ¬ sLt b a := h.imp fun {a b} hab => sLt_asymm hab
theorem incs_nb (ok : OkTree t) (so : sortedS ys = true) (pm : ys.Perm (t.map (·.1))) {r : Row} (hr : r ∈ t) : incs (edgeL t ys) r.1 = r.2.2 := by
  have nd : ys.Nodup := pm.symm.nodup ok.nodup
  have pw := incs_pw (v := r.1) (edges_pw ok so nd fun y hy => pm.subset hy) fun q hq => (mem_edgeL7.mp (show (q.1, q.2) ∈ _ from hq)).2.2
  refine sorted_eq.go (pw_weak pw) (pw_nodup pw) (sortedS_pw (ok.asc r hr).1) (ok.asc r hr).2 fun z => ?_
  rw [mem_incs, mem_edgeL7, mem_edgeL7, ok.nbAt hr]
  constructor
  · rintro (⟨_, h, _⟩ | ⟨_, h, _⟩)
    · exact h
    · have := (nbO_sym ok h).1
      rw [ok.nbAt hr] at this
      exact this
  · intro h
    have h' : z ∈ nbO t r.1 := by rw [ok.nbAt hr]; exact h
    obtain ⟨h2, h3⟩ := nbO_sym ok h'
    have ne := nbO_ne ok h'
    by_cases c : sLt r.1 z
    · exact .inl ⟨pm.symm.subset (List.mem_map.mpr ⟨r, hr, rfl⟩), h, c⟩
    · right
      refine ⟨pm.symm.subset h3, h2, ?_⟩
      by_cases c2 : sLt z r.1
      · exact c2
      · exact (ne (sLt_tri c c2)).elim
/-- a tree of one node has no edge, each node of another one has some -/
theorem edges_none (ok : OkTree t) (pm : ys.Perm (t.map (·.1))) (h : edgeL t ys = []) : ∃ r, t = [r] := by
  have no : ∀ r ∈ t, ∀ z, z ∉ r.2.2 := fun r hr z hz => by
    have h' : z ∈ nbO t r.1 := by rw [ok.nbAt hr]; exact hz
    obtain ⟨h2, h3⟩ := nbO_sym ok h'
    have ne := nbO_ne ok h'
    by_cases c : sLt r.1 z
    · have : (r.1, z) ∈ edgeL t ys := mem_edgeL7.mpr ⟨pm.symm.subset (List.mem_map.mpr ⟨r, hr, rfl⟩), h', c⟩
      rw [h] at this
      exact absurd this List.not_mem_nil
    · by_cases c2 : sLt z r.1
      · have : (z, r.1) ∈ edgeL t ys := mem_edgeL7.mpr ⟨pm.symm.subset h3, h2, c2⟩
        rw [h] at this
        exact absurd this List.not_mem_nil
      · exact ne (sLt_tri c c2)
  match t, ok, no with
  | [], ok, _ => exact absurd ok.n1 (by decide)
  | [r], _, _ => exact ⟨r, rfl⟩
  | r :: s :: u, ok, no =>
    have all := ok.conn (fun x => x = r.1) ⟨r, List.mem_cons_self, rfl⟩ (fun q hq e y hy => (no q hq y hy).elim) s (List.mem_cons_of_mem _ List.mem_cons_self)
    have nd := ok.nodup
    rw [List.map_cons, List.map_cons, List.nodup_cons] at nd
    exact (nd.1 (by rw [← all]; exact List.mem_cons_self)).elim
theorem edges_some (ok : OkTree t) (pm : ys.Perm (t.map (·.1))) (h : edgeL t ys ≠ []) {r : Row} (hr : r ∈ t) : r.2.2 ≠ [] := fun e => by
  have one := ok.conn (fun x => x = r.1) ⟨r, hr, rfl⟩ fun q hq eq y hy => by
    rw [ok.one hq hr eq, e] at hy
    exact absurd hy List.not_mem_nil
  refine h (List.eq_nil_iff_forall_not_mem.mpr fun q hq => ?_)
  obtain ⟨a, u⟩ := q
  obtain ⟨_, h1, _⟩ := mem_edgeL7.mp hq
  obtain ⟨s, hs, es, hu⟩ := nbO_ok ok h1
  rw [ok.one hs hr (one s hs), e] at hu
  exact absurd hu List.not_mem_nil
theorem edges_len (ok : OkTree t) (pm : ys.Perm (t.map (·.1))) : (edgeL t ys).length ≤ 1640 := by
  have go : ∀ l : List Str, (∀ y ∈ l, (nbO t y).length ≤ 40) → (edgeL t l).length ≤ 40 * l.length := fun l => by
    induction l with
    | nil => intro _; exact Nat.zero_le _
    | cons y l ih =>
      intro h
      have h1 := h y List.mem_cons_self
      have h2 := ih fun z hz => h z (List.mem_cons_of_mem _ hz)
      have h3 := upE_len y (nbO t y)
      show ((upE y (nbO t y)) ++ edgeL t l).length ≤ _
      rw [List.length_append, List.length_cons]
      omega
  have := go ys fun y hy => by
    obtain ⟨r, hr, er⟩ := List.mem_map.mp (pm.subset hy)
    have er : r.1 = y := er
    rw [← er, ok.nbAt hr]
    exact ok.deg hr
  have := pm.length_eq
  have := ok.n40
  rw [List.length_map] at *
  omega
/-! ### the text of a tree -/
def wordsT (t : List Row) (ys : List Str) : List Str := if edgeL t ys = [] then ys else (edgeL t ys).map edgeT
def treeT (t : List Row) (ys : List Str) : Str := Txt.join " " (wordsT t ys)
theorem words_one (ok : OkTree t) (pm : ys.Perm (t.map (·.1))) (h : edgeL t ys = []) : ∃ r, t = [r] ∧ ys = [r.1] := by
  obtain ⟨r, e⟩ := edges_none ok pm h
  refine ⟨r, e, ?_⟩
  rw [e] at pm
  exact List.perm_singleton.mp pm
theorem words_free (ok : OkTree t) (pm : ys.Perm (t.map (·.1))) : wordsT t ys ≠ [] ∧ ∀ y ∈ wordsT t ys, 32 ∉ y.cps.toList ∧ y.length ≤ 17 := by
  unfold wordsT
  by_cases h : edgeL t ys = []
  · rw [if_pos h]
    obtain ⟨r, e, ey⟩ := words_one ok pm h
    have nr := ok.names r (by rw [e]; exact List.mem_cons_self)
    rw [ey]
    refine ⟨List.cons_ne_nil _ _, fun y hy => ?_⟩
    rw [List.mem_singleton.mp hy]
    exact ⟨name_free nr (by decide), by have := name_len nr; omega⟩
  · rw [if_neg h]
    refine ⟨fun z => h (List.map_eq_nil_iff.mp z), fun y hy => ?_⟩
    obtain ⟨q, hq, rfl⟩ := List.mem_map.mp hy
    obtain ⟨n1, n2⟩ := edge_names ok hq
    refine ⟨edge_free n1 n2 (by decide), ?_⟩
    have := name_len n1
    have := name_len n2
    have : ("-" : Str).length = 1 := by decide +kernel
    unfold edgeT
    rw [len_app, len_app]
    omega
theorem tree_split (ok : OkTree t) (pm : ys.Perm (t.map (·.1))) : Txt.split (treeT t ys) " " = wordsT t ys := by
  obtain ⟨ne, fr⟩ := words_free ok pm
  unfold treeT
  rw [sp_eq]
  exact split_join ne fun y hy => (fr y hy).1
theorem words_len (ok : OkTree t) (pm : ys.Perm (t.map (·.1))) : (wordsT t ys).length ≤ 1640 := by
  unfold wordsT
  split
  · have := pm.length_eq
    have := ok.n40
    rw [List.length_map] at *
    omega
  · rw [List.length_map]
    exact edges_len ok pm
theorem tree_len (ok : OkTree t) (pm : ys.Perm (t.map (·.1))) : (treeT t ys).length ≤ 30000 := by
  obtain ⟨_, fr⟩ := words_free ok pm
  have l := words_len ok pm
  have h := join_len (c := 32) (k := 17) fun y hy => (fr y hy).2
  unfold treeT
  rw [sp_eq]
  omega
theorem tree_same {u : List Row} (h : ∀ y ∈ ys, nbO u y = nbO t y) : edgeL u ys = edgeL t ys := by
  unfold edgeL
  induction ys with
  | nil => rfl
  | cons y r ih =>
    rw [List.flatMap_cons, List.flatMap_cons, h y List.mem_cons_self, ih fun z hz => h z (List.mem_cons_of_mem _ hz)]
theorem words_pw (ok : OkTree t) (so : sortedS ys = true) (pm : ys.Perm (t.map (·.1))) : ((edgeL t ys).map edgeT).Pairwise sLt := by
  rw [List.pairwise_map]
  have nd : ys.Nodup := pm.symm.nodup ok.nodup
  refine List.Pairwise.imp_of_mem ?_ (edges_pw ok so nd fun y hy => pm.subset hy)
  intro p q _ hq h
  exact edge_lt (edge_names ok hq).1 h
end
end A8
set_option Elab.async false
set_option linter.all false
set_option maxRecDepth 100000
set_option maxHeartbeats 8000000
namespace A8
open PySem PySem.Spec PyProof.Rows L2 AL
open GxR (TabB TabG Tabbed)
def rJoin (K : PySem.W.Frag) : V → List V → Hp → VK → Prop := fun x xs H Q => ∃ a p, ∃ ys : List Str, x = .str a ∧ xs = [.ref p] ∧ (SqL K H p (ys.map V.str) ∨ SqT K H p (ys.map V.str)) ∧ (ys.map (·.length)).sum + ys.length * a.length ≤ 16777216 ∧ Q (.str (Txt.join a ys)) H
abbrev tDash : TE := fun σ H Q => tJs [tFmt (tVar 2), tC (.str "-"), tFmt (tVar 3)] Str.empty σ H fun out H1 => Q (.str out) H1
theorem upd_twice {H : Hp} {a b : Addr} {o u v : HO} (ne : b ≠ a) : upd (upd (upd H a o) b u) a v = upd (upd H b u) a v := by
  funext c
  by_cases h : c = a
  · rw [h, upd_same, upd_same]
  · rw [upd_ne h, upd_ne h]
    by_cases k : c = b
    · rw [k, upd_same, upd_same]
    · rw [upd_ne k, upd_ne k, upd_ne h]
abbrev sShowTree : Stmt := top 16
abbrev nShowTree : List Str := ["tree", "words", "node", "other"]
theorem scShowTree : FnScope nShowTree ["tree"] (defScope sShowTree) := ⟨rfl, rfl, rfl, by decide +kernel, rfl, by decide +kernel, by decide +kernel⟩
def spShowTree (Ps : List Addr) : Sp := fun vs H Q _ => ∃ (d : Addr) (t : List Row), vs = [.ref d] ∧ H d = some (.dK (kvsOf t)) ∧ RowsAt H t ∧ OkTree t ∧ Tabs Ps H ∧ ∀ H' (ys : List Str), Ext Ps H H' → ys.Perm (t.map (·.1)) → sortedS ys = true → Q (.str (treeT t ys)) H'
abbrev sCheckText : Stmt := top 18
theorem scCheckText : FnScope ["value"] ["value"] (defScope sCheckText) := ⟨rfl, rfl, rfl, by decide +kernel, rfl, by decide +kernel, by decide +kernel⟩
def spCheckText : Sp := fun vs H Q _ => ∃ x : Str, vs = [.str x] ∧ Q .non H
abbrev sOfWords : Stmt := top 19
abbrev nOfWords : List Str := ["words", "rows", "word", "node", "_", "other"]
theorem scOfWords : FnScope nOfWords ["words"] (defScope sOfWords) := ⟨rfl, rfl, rfl, by decide +kernel, rfl, by decide +kernel, by decide +kernel⟩
/-- the tree of its words: the rows in the order of the names, lists of their own -/
def spOfWords (Ps : List Addr) : Sp := fun vs H Q _ => ∃ (l : Addr) (t : List Row) (ys : List Str), vs = [.ref l] ∧ H l = some (.lst ((wordsT t ys).map V.str)) ∧ OkTree t ∧ ys.Perm (t.map (·.1)) ∧ sortedS ys = true ∧ Tabs Ps H ∧
  ∀ H' q (zt : List Row), Ext Ps H H' → H q = none → H' q = some (.dK (kvsOf zt)) → RowsAt H' zt → zt.map (·.1) = ys → (∀ r ∈ zt, r.2.2 = nbO t r.1 ∧ H r.2.1 = none) → (zt.map (·.2.1)).Nodup → Q (.ref q) H'
/-- lists in a dict, filled name by name -/
structure Rws (Ps : List Addr) (H G : Hp) (N : Addr) (zs : List Row) (f : Str → List Str) (n : Nat) : Prop where
  e : Ext Ps H G
  d : G N = some (.dK (kvsOf zs))
  rows : RowsAt G zs
  nd : (zs.map (·.1)).Nodup
  ad : (zs.map (·.2.1)).Nodup
  fr : ∀ r ∈ zs, H r.2.1 = none
  val : ∀ r ∈ zs, r.2.2 = f r.1
  non : ∀ v, v ∉ zs.map (·.1) → f v = []
  ne : ∀ r ∈ zs, r.2.2 ≠ []
  len : zs.length ≤ n
  ll : ∀ r ∈ zs, r.2.2.length ≤ n
theorem row_one {zs : List Row} (nd : (zs.map (·.1)).Nodup) {r s : Row} (hr : r ∈ zs) (hs : s ∈ zs) (e : s.1 = r.1) : s = r := inj_nd nd hs hr e
theorem Rws.had {Ps : List Addr} {H G : Hp} {N : Addr} {zs : List Row} {f : Str → List Str} {n : Nat} (w : Rws Ps H G N zs f n) (tb : Tabs Ps H) {r : Row} (hr : r ∈ zs) (z : Str) :
    Rws Ps H (upd G r.2.1 (.lst ((r.2.2 ++ [z]).map V.str))) N (rowPut zs r.1 r.2.1 (r.2.2 ++ [z])) (fun u => if u = r.1 then f u ++ [z] else f u) (n + 1) := by
  have rn : r.1 ∈ zs.map (·.1) := List.mem_map.mpr ⟨r, hr, rfl⟩
  have kv : kvsOf (rowPut zs r.1 r.2.1 (r.2.2 ++ [z])) = kvsOf zs := rowPut_kv' hr w.nd
  have ad2 : (rowPut zs r.1 r.2.1 (r.2.2 ++ [z])).map (·.2.1) = zs.map (·.2.1) := rowPut_ad' hr w.nd
  have hr1 := w.rows r hr
  have lN : r.2.1 ≠ N := fun e => by rw [e, w.d] at hr1; cases hr1
  refine ⟨w.e.put (w.fr r hr) (notPs tb (w.fr r hr)), by rw [upd_ne (Ne.symm lN), kv]; exact w.d, fun q hq => ?_, by rw [rowPut_nm]; exact w.nd, by rw [ad2]; exact w.ad, fun q hq => ?_, fun q hq => ?_, fun v hv => ?_, fun q hq => ?_, by show (rowPut zs r.1 r.2.1 (r.2.2 ++ [z])).length ≤ n + 1; rw [rowPut, List.length_map]; exact Nat.le_succ_of_le w.len, fun q hq => ?_⟩
  · rcases rowPut_mem hq with ⟨h1, h2, h3⟩ | ⟨h1, h2⟩
    · rw [h2, h3]
      exact upd_same
    · rw [upd_ne fun e => h1 (by rw [inj_nd w.ad h2 hr e])]
      exact w.rows q h2
  · rcases rowPut_mem hq with ⟨h1, h2, h3⟩ | ⟨h1, h2⟩
    · rw [h2]
      exact w.fr r hr
    · exact w.fr q h2
  · rcases rowPut_mem hq with ⟨h1, h2, h3⟩ | ⟨h1, h2⟩
    · show q.2.2 = if q.1 = r.1 then f q.1 ++ [z] else f q.1
      rw [if_pos h1, h3, h1, w.val r hr]
    · show q.2.2 = if q.1 = r.1 then f q.1 ++ [z] else f q.1
      rw [if_neg h1]
      exact w.val q h2
  · rw [rowPut_nm] at hv
    show (if v = r.1 then f v ++ [z] else f v) = []
    rw [if_neg fun e => hv (by rw [e]; exact rn)]
    exact w.non v hv
  · rcases rowPut_mem hq with ⟨h1, h2, h3⟩ | ⟨h1, h2⟩
    · rw [h3]
      exact List.append_ne_nil_of_right_ne_nil _ (List.cons_ne_nil _ _)
    · exact w.ne q h2
  · rcases rowPut_mem hq with ⟨h1, h2, h3⟩ | ⟨h1, h2⟩
    · rw [h3, List.length_append]
      exact Nat.succ_le_succ (w.ll r hr)
    · exact Nat.le_succ_of_le (w.ll q h2)
theorem Rws.new {Ps : List Addr} {H G : Hp} {N L : Addr} {zs : List Row} {f : Str → List Str} {n : Nat} (w : Rws Ps H G N zs f n) (tb : Tabs Ps H) (hN : H N = none) (hL : G L = none) {v : Str} (hv : v ∉ zs.map (·.1)) (z : Str) :
    Rws Ps H (upd (upd G N (.dK (kvsOf (zs ++ [(v, L, [z])])))) L (.lst ([z].map V.str))) N (zs ++ [(v, L, [z])]) (fun u => if u = v then f u ++ [z] else f u) (n + 1) := by
  have NL : N ≠ L := ne_of_none w.d hL
  have HL : H L = none := w.e.none hL tb
  refine ⟨(w.e.put hN (notPs tb hN)).put HL (notPs tb HL), by rw [upd_ne NL]; exact upd_same, fun q hq => ?_, ?_, ?_, fun q hq => ?_, fun q hq => ?_, fun u hu => ?_, fun q hq => ?_, by rw [List.length_append]; exact Nat.succ_le_succ w.len, fun q hq => ?_⟩
  · rcases List.mem_append.mp hq with h | h
    · have h1 := w.rows q h
      rw [upd_ne (ne_of_none h1 hL), upd_ne fun e => by rw [e, w.d] at h1; cases h1]
      exact h1
    · rw [List.mem_singleton.mp h]
      exact upd_same
  · rw [List.map_append]
    exact List.nodup_append.mpr ⟨w.nd, by simp, fun a ha b hb e => hv (by rw [← show b = v from List.mem_singleton.mp hb, ← e]; exact ha)⟩
  · rw [List.map_append]
    refine List.nodup_append.mpr ⟨w.ad, by simp, fun a ha b hb e => ?_⟩
    obtain ⟨q, hq, eq⟩ := List.mem_map.mp ha
    have h1 := w.rows q hq
    rw [eq, e, show b = L from List.mem_singleton.mp hb, hL] at h1
    cases h1
  · rcases List.mem_append.mp hq with h | h
    · exact w.fr q h
    · rw [List.mem_singleton.mp h]
      exact HL
  · rcases List.mem_append.mp hq with h | h
    · show q.2.2 = if q.1 = v then f q.1 ++ [z] else f q.1
      rw [if_neg fun e => hv (by rw [← e]; exact List.mem_map.mpr ⟨q, h, rfl⟩)]
      exact w.val q h
    · rw [List.mem_singleton.mp h]
      show [z] = if v = v then f v ++ [z] else f v
      rw [if_pos rfl, w.non v hv]
      rfl
  · rw [List.map_append] at hu
    have h1 : u ≠ v := fun e => hu (List.mem_append_right _ (by rw [e]; exact List.mem_singleton.mpr rfl))
    show (if u = v then f u ++ [z] else f u) = []
    rw [if_neg h1]
    exact w.non u fun h => hu (List.mem_append_left _ h)
  · rcases List.mem_append.mp hq with h | h
    · exact w.ne q h
    · rw [List.mem_singleton.mp h]
      exact List.cons_ne_nil _ _
  · rcases List.mem_append.mp hq with h | h
    · exact Nat.le_succ_of_le (w.ll q h)
    · rw [List.mem_singleton.mp h]
      exact Nat.succ_le_succ (Nat.zero_le _)
theorem Rws.same {Ps : List Addr} {H G G' : Hp} {N : Addr} {zs : List Row} {f : Str → List Str} {n : Nat} (w : Rws Ps H G N zs f n) (s : Same G G') : Rws Ps H G' N zs f n := { w with e := w.e.trans (Ext.same s), d := s _ _ w.d, rows := fun r hr => s _ _ (w.rows r hr) }
/-- rows.setdefault(v, []).append(z) -/
theorem Rws.step {Ps : List Addr} {H G : Hp} {N : Addr} {zs : List Row} {f : Str → List Str} {n : Nat} (w : Rws Ps H G N zs f n) (tb : Tabs Ps H) (hN : H N = none) (hn : n < 10000) {v z : Str} {Q : Hp → Prop} {L : Addr} (hL : G L = none)
    (hQ : ∀ G' zs', Rws Ps H G' N zs' (fun u => if u = v then f u ++ [z] else f u) (n + 1) → Q G') :
    ∃ (kvs : List (Key × V)) (k : Key), upd G L (.lst []) N = some (.dK kvs) ∧ V.str v = kV k ∧ kvs.length < sizeLine ∧
      (∀ a, valV kvs k = some a → ∃ l xs, a = .ref l ∧ upd G L (.lst []) l = some (.lst xs) ∧ xs.length < sizeLine ∧ Q (upd (upd G L (.lst [])) l (.lst (xs ++ [.str z])))) ∧
      (valV kvs k = none → upd (upd G L (.lst [])) N (.dK (putK kvs k (.ref L))) L = some (.lst []) ∧ Q (upd (upd (upd G L (.lst [])) N (.dK (putK kvs k (.ref L)))) L (.lst ([] ++ [.str z])))) := by
  have NL : N ≠ L := ne_of_none w.d hL
  have w1 := w.same (snew (o := .lst []) hL)
  refine ⟨kvsOf zs, Sum.inr v, w1.d, rfl, by rw [kvsOf_len, sizeLine_eq]; have := w.len; omega, fun a ha => ?_, fun ha => ⟨by rw [upd_ne (Ne.symm NL)]; exact upd_same, ?_⟩⟩
  · have hv : v ∈ zs.map (·.1) := Classical.byContradiction fun h => by rw [kvsOf_none h] at ha; cases ha
    obtain ⟨r, hr, er⟩ := List.mem_map.mp hv
    have er : r.1 = v := er
    subst er
    rw [valV_row hr w.nd] at ha
    cases ha
    refine ⟨r.2.1, _, rfl, w1.rows r hr, by rw [List.length_map, sizeLine_eq]; have := w.ll r hr; omega, ?_⟩
    have e : r.2.2.map V.str ++ [V.str z] = (r.2.2 ++ [z]).map V.str := by rw [List.map_append]; rfl
    rw [e]
    exact hQ _ _ (w1.had tb hr z)
  · have hv : v ∉ zs.map (·.1) := fun h => by
      obtain ⟨r, hr, er⟩ := List.mem_map.mp h
      have er : r.1 = v := er
      rw [← er, valV_row hr w.nd] at ha
      cases ha
    have pk : putK (kvsOf zs) (Sum.inr v) (.ref L) = kvsOf (zs ++ [(v, L, [z])]) := by
      rw [putK_new _ (kvsOf_none hv), kvsOf, kvsOf, List.map_append]
      rfl
    rw [pk]
    have w2 := w.new tb hN hL hv z
    have e : upd (upd (upd G L (.lst [])) N (.dK (kvsOf (zs ++ [(v, L, [z])])))) L (.lst ([] ++ [V.str z])) = upd (upd G N (.dK (kvsOf (zs ++ [(v, L, [z])])))) L (.lst ([z].map V.str)) := by
      rw [upd_twice NL]
      rfl
    rw [e]
    exact hQ _ _ w2
/-- e; ..: by what is known of the heap behind it -/
theorem seq_drop {te : TE} {u : TS} {D : Ends} {σ : L2.St} {H : Hp} (R : Hp → Prop) (h1 : ∀ Q : VK, (∀ v H1, R H1 → Q v H1) → te σ H Q) (h2 : ∀ H1, R H1 → u D σ H1) : tSeq (tDrop te) u D σ H := h1 _ fun _ H1 r => h2 H1 r
theorem one_drop {te : TE} {D : Ends} {σ : L2.St} {H : Hp} (R : Hp → Prop) (h1 : ∀ Q : VK, (∀ v H1, R H1 → Q v H1) → te σ H Q) (h2 : ∀ H1, R H1 → D.nx σ H1) : tDrop te D σ H := h1 _ fun _ H1 r => h2 H1 r
section
variable {P : Program} {w : World} {K : PySem.W.Frag} {mg : Str → Option Value} {base : Heap} {f c p1 : Addr} {fd : FuncData} {Ps : List Addr}
theorem ok_checkText (F : FunD K "check_text" "check_text" (defArgs sCheckText) (defBody sCheckText) (defScope sCheckText) [] [] f fd) (gI : mg "isinstance" = none) (gS : mg "str" = none) : FnOk P w K mg base CX0 1 f fd ["value"] spCheckText := by
  refine F.ok scCheckText (fun vs H Q E h => ?_) ?_
  · obtain ⟨x, rfl, _⟩ := h
    rfl
  intro cdv A outer s H vs Q E hr h
  refine ⟨_, PSs.nox (pss_one (ps_if (pt_not (pt_val (pe_callB call_isi rfl gI (by decide +kernel) (pa_cons (pv 0) (pa_cons (pe_bltn (u := .type "str") (v := .ty "str") rfl gS (by decide +kernel) rfl) pa_nil))))) pss_never pss_nil)), ?_⟩
  obtain ⟨x, rfl, hQ⟩ := h
  exact ⟨_, rfl, _, _, .type "str", .type "str", true, rfl, .ty "str", .base (.str x), kit_ty (by decide +kernel), true, rfl, iteF hQ⟩
theorem ok_showTree (F : FunD K "show_tree" "show_tree" (defArgs sShowTree) (defBody sShowTree) (defScope sShowTree) [] [] f fd) (cE : Cal P w K mg base 7 "edges_of" (spEdges Ps)) (gL : mg "list" = none) : FnOk P w K mg base CX0 8 f fd ["tree"] (spShowTree Ps) := by
  refine F.ok scShowTree (fun vs H Q E h => ?_) ?_
  · obtain ⟨d, t, rfl, _⟩ := h
    rfl
  intro cdv A outer s H vs Q E hr h
  refine ⟨_, PSs.nox (pss_cons (ps_setLc (i := 1) (own := [("node", 2), ("other", 3)]) (g := gTup K 2 (gCons (gName 2) (gCons (gName 3) gNil))) (tt := tYes) (te := tDash) rfl scShowTree.nd rfl rfl (sw_true rfl rfl rfl (by decide +kernel))
      (pi_list (pe_c cE hr (by decide) rfl (pa_cons (pv 0) pa_nil))) (blkOk_by (N := nShowTree) (sc := defScope sShowTree) (by decide +kernel)) (fun _ _ _ _ _ => pg_tup rfl (pgs_cons (pg_name (i := 2) scShowTree.nd rfl (Or.inl rfl)) (pgs_cons (pg_name (i := 3) scShowTree.nd rfl (Or.inl rfl)) pgs_nil))) (fun _ _ _ _ _ => pts_nil)
      (fun _ _ _ _ _ => pe_joined (.cons (pe_fmt (pv 2)) (.cons pe_str (.cons (pe_fmt (pv 3)) .nil)))))
    (pss_one (ps_ret (pe_join pe_str (pe_orT (pv 1) (pe_one (pe_callTy (call_listD rfl) rfl gL (by decide +kernel) (pa_cons (pv 0) pa_nil)))))))), ?_⟩
  obtain ⟨d, t, rfl, hd, hR, ok, ht, hQ⟩ := h
  refine ⟨_, rfl, d, t, rfl, hd, hR, ok, ht, fun H1 q ts ys e1 hq0 hq pm so tsA tl => ?_⟩
  have hd1 := e1.get ht hd fun _ z => HO.noConfusion z
  have t1 := e1.tabs ht
  refine ⟨q, rfl, ⟨_, .inl (.inl hq)⟩, fun D hD => ?_⟩
  have nm := fun {p : Str × Str} => edge_names (q := p) (ys := ys) ok
  have lc : ("-" : Str).length = 1 := by decide +kernel
  refine lc_list (K := K) (xs := ts.map V.ref) (fun i G => Same H1 G ∧ G D = some (.lst ((((edgeL t ys).take i).map edgeT).map V.str))) ⟨snew hD, upd_same⟩ (fun i G _ h => .inl (.inl (h.1 _ _ hq))) ?_ ?_
  · rintro i x G hx ⟨sm, hDG⟩
    rw [List.getElem?_map] at hx
    cases hy : ts[i]? with
    | none => rw [hy] at hx; cases hx
    | some T =>
    rw [hy] at hx
    cases hx
    have il := at_lt' hy
    obtain ⟨pq, hpq, hT⟩ := pair_at tsA hy
    have mem := List.mem_of_getElem? hpq
    obtain ⟨n1, n2⟩ := nm mem
    have l1 := name_len n1
    have l2 := name_len n2
    refine ⟨T, [_, _], rfl, .inl (.inl (sm _ _ hT)), rfl, _, [_], rfl, _, [], rfl, rfl, ⟨rfl, _, rfl, .inl ⟨pq.1, rfl, by rw [sizeLine_eq]; omega, pq.1, rfl, by rw [Str.empty_append, sizeLine_eq]; omega, _, rfl, by rw [len_app, Str.empty_append, lc, sizeLine_eq]; omega, _, rfl, .inl ⟨pq.2, rfl, by rw [sizeLine_eq]; omega, pq.2, rfl, by rw [len_app, len_app, Str.empty_append, lc, sizeLine_eq]; omega, ?_⟩⟩⟩⟩
    rw [Str.empty_append]
    refine ⟨_, hDG, by rw [List.length_map, List.length_map, List.length_take, sizeLine_eq]; have := edges_len ok pm; omega, fun b o e => ?_, ?_⟩
    · rw [upd_ne (ne_of_none e hD)]
      exact sm _ _ e
    · rw [upd_same, List.take_succ, hpq, List.map_append, List.map_append]
      rfl
  rintro G ⟨sm, hDG⟩
  have tlen := tsA.len
  rw [List.length_map, tlen, List.take_length] at hDG
  have eG : Ext Ps H G := e1.trans (Ext.same sm)
  refine ⟨⟨_, rfl⟩, _, rfl, ?_⟩
  by_cases h : edgeL t ys = []
  · obtain ⟨r, er, ey⟩ := words_one ok pm h
    rw [h] at hDG
    refine ⟨false, .inl ⟨_, .inl (.inl hDG), rfl⟩, iteF ?_⟩
    refine ⟨_, rfl, d, kvsOf t, rfl, .inl (sm _ _ hd1), fun p hp => ?_⟩
    have ek : (kvsOf t).map (fun kv => kV kv.1) = ys.map V.str := by rw [er, ey]; rfl
    refine ⟨" ", p, ys, rfl, rfl, .inl (.inl (.inl (by rw [upd_same, ek]))), ?_, ?_⟩
    · have nr := name_len (ok.names r (by rw [er]; exact List.mem_cons_self))
      have lb : (" " : Str).length = 1 := by decide +kernel
      rw [ey, lb]
      show r.1.length + 0 + 1 * 1 ≤ _
      omega
    · have := hQ (upd G p (.lst ((kvsOf t).map fun kv => kV kv.1))) ys (eG.trans (.new hp)) pm so
      unfold treeT wordsT at this
      rw [if_pos h] at this
      exact this
  · have ne : (((edgeL t ys).map edgeT).map V.str).isEmpty = false := by
      cases q : edgeL t ys with
      | nil => exact (h q).elim
      | cons a b => rfl
    refine ⟨true, .inl ⟨_, .inl (.inl hDG), by rw [ne]; rfl⟩, iteT ?_⟩
    refine ⟨" ", D, (edgeL t ys).map edgeT, rfl, rfl, .inl (.inl (.inl hDG)), ?_, ?_⟩
    · have h1 := sum_names (k := 17) (ys := (edgeL t ys).map edgeT) fun z hz => by
        obtain ⟨q, hq, rfl⟩ := List.mem_map.mp hz
        obtain ⟨n1, n2⟩ := nm hq
        have := name_len n1
        have := name_len n2
        unfold edgeT
        rw [len_app, len_app, lc]
        omega
      have lb : (" " : Str).length = 1 := by decide +kernel
      have := edges_len ok pm
      rw [lb]
      rw [List.length_map] at h1 ⊢
      omega
    · have := hQ G ys eG pm so
      unfold treeT wordsT at this
      rw [if_neg h] at this
      exact this
where
  at_lt' {α : Type} {l : List α} {i : Nat} {a : α} (h : l[i]? = some a) : i < l.length := (List.getElem?_eq_some_iff.mp h).1
  pair_at {H : Hp} : ∀ {ts : List Addr} {qs : List (Str × Str)}, PairsAt H ts qs → ∀ {i : Nat} {T : Addr}, ts[i]? = some T → ∃ q, qs[i]? = some q ∧ H T = some (.tup [.str q.1, .str q.2])
    | _, _, .nil, i, T, h => by cases h
    | _, _, .cons e r, 0, T, h => by
      cases h
      exact ⟨_, rfl, e⟩
    | _, _, .cons e r, i + 1, T, h => pair_at r (i := i) h
theorem ok_ofWords (F : FunD K "_tree_of_words" "_tree_of_words" (defArgs sOfWords) (defBody sOfWords) (defScope sOfWords) [] [] f fd) (gS : mg "sorted" = none) : FnOk P w K mg base CX0 1 f fd ["words"] (spOfWords Ps) := by
  refine F.ok scOfWords (fun vs H Q E h => ?_) ?_
  · obtain ⟨d, t, ys, rfl, _⟩ := h
    rfl
  intro cdv A outer s H vs Q E hr h
  refine ⟨_, PSs.nox (pss_cons (ps_if (pt_cmpR op_notIn_sign pe_str (pe_ix ix_list (pv 0) pe_int (fun _ _ => rfl)) rfl)
      (pss_one (ps_ret (pe_disp (pps_cons (pe_ix ix_list (pv 0) pe_int (fun _ _ => rfl)) (pe_lst pa_nil) pps_nil) rfl rfl (by decide) (by decide)))) pss_nil)
    (pss_cons (ps_set (i := 1) scOfWords.nd rfl (Or.inr rfl) pe_dnewK)
    (pss_cons (ps_for PassesOwn.never rfl (pi_list (pv 0)) (pg_name (i := 2) scOfWords.nd rfl (Or.inl rfl))
      (pss_cons (ps_asg (pe_partition (pv 2) pe_str) (pg_tup rfl (pgs_cons (pg_name (i := 3) scOfWords.nd rfl (Or.inl rfl)) (pgs_cons (pg_name (i := 4) scOfWords.nd rfl (Or.inl rfl)) (pgs_cons (pg_name (i := 5) scOfWords.nd rfl (Or.inl rfl)) pgs_nil)))))
      (pss_cons (ps_expr (pe_bm PySem.F.plainAttrs_list PySem.F.slot_list_append PySem.F.type_list_append mt_append (pe_dsetd (pv 1) (pv 3) (pe_lst pa_nil) ⟨rfl, rfl, rfl, rfl⟩) (pa_cons (pv 5) pa_nil)))
      (pss_one (ps_expr (pe_bm PySem.F.plainAttrs_list PySem.F.slot_list_append PySem.F.type_list_append mt_append (pe_dsetd (pv 1) (pv 5) (pe_lst pa_nil) ⟨rfl, rfl, rfl, rfl⟩) (pa_cons (pv 3) pa_nil)))))))
    (pss_one (ps_ret (pe_dc (own := [("node", 3)]) (g := gName 3) (tt := tYes) (tv := tDGet (tVar 1) (tVar 3)) rfl scOfWords.nd (pi_list (pe_callB (call_sortedD rfl) rfl gS (by decide +kernel) (pa_cons (pv 1) pa_nil))) (blkOk_by (N := nOfWords) (sc := defScope sOfWords) (by decide +kernel))
      (fun _ _ _ _ _ => pg_name (i := 3) scOfWords.nd rfl (Or.inl rfl)) (fun _ _ _ _ _ => pts_nil) (fun _ _ _ _ _ => pv 3) (fun _ _ _ _ _ => pe_dget (hu_of hr) (pv 1) (pv 3) (fun _ _ => rfl)))))))), ?_⟩
  obtain ⟨l, t, ys, rfl, hl, ok, pm, so, ht, hQ⟩ := h
  have n40 := ok.n40
  obtain ⟨wne, wfr⟩ := words_free ok pm
  have ydn : ys.Nodup := pm.symm.nodup ok.nodup
  by_cases h : edgeL t ys = []
  · obtain ⟨r, er, ey⟩ := words_one ok pm h
    have rt : r ∈ t := by rw [er]; exact List.mem_cons_self
    have ew : wordsT t ys = [r.1] := by unfold wordsT; rw [if_pos h, ey]
    rw [ew] at hl
    have at0 : atI (([r.1] : List Str).map V.str) 0 = some (.str r.1) := atI_nat (j := 0) rfl
    refine ⟨_, rfl, l, _, _, _, rfl, rfl, .inl (.inl hl), at0, 45, r.1, congrArg V.str da_eq, rfl, _, rfl, ?_⟩
    rw [decide_eq_false (name_free (ok.names r rt) (by decide))]
    refine iteT ?_
    refine fun dd hdd => ?_
    have ld : l ≠ dd := ne_of_none hl hdd
    refine ⟨_, rfl, l, _, _, _, rfl, rfl, .inl (.inl (by rw [upd_ne ld]; exact hl)), at0, by show 0 ≤ sizeLine; exact Nat.zero_le _, fun el hel => ?_⟩
    have ed : dd ≠ el := fun z => by rw [← z, upd_same] at hel; cases hel
    refine ⟨by rw [upd_ne ed]; exact upd_same, [(Sum.inr r.1, .ref el)], rfl, by show 1 ≤ 15; decide, ?_⟩
    have hel' : H el = none := by rw [upd_ne (Ne.symm ed)] at hel; exact hel
    have n1 := notPs ht hdd
    have nb : nbO t r.1 = [] := by
      rw [ok.nbAt rt]
      refine List.eq_nil_iff_forall_not_mem.mpr fun y hy => ?_
      obtain ⟨s, hs, es⟩ := ok.nbs r rt y hy
      rw [er] at hs
      rw [List.mem_singleton.mp hs] at es
      exact ok.self r rt (by rw [es]; exact hy)
    refine hQ _ dd [(r.1, el, [])] (((Ext.refl.put hdd n1).put hel' (notPs ht hel')).put hdd n1) hdd upd_same (fun q hq => ?_) (by rw [ey]; rfl) (fun q hq => ?_) (by simp)
    · rw [List.mem_singleton.mp hq]
      show upd _ dd _ el = some (.lst [])
      rw [upd_ne (Ne.symm ed)]
      exact upd_same
    · rw [List.mem_singleton.mp hq]
      exact ⟨nb.symm, hel'⟩
  have ew : wordsT t ys = (edgeL t ys).map edgeT := by unfold wordsT; rw [if_neg h]
  rw [ew] at hl
  obtain ⟨q0, qr, eq⟩ : ∃ q0 qr, edgeL t ys = q0 :: qr := by
    cases q : edgeL t ys with
    | nil => exact (h q).elim
    | cons a b => exact ⟨a, b, rfl⟩
  have at0 : atI (((edgeL t ys).map edgeT).map V.str) 0 = some (.str (edgeT q0)) := atI_nat (j := 0) (by rw [eq]; rfl)
  refine ⟨_, rfl, l, _, _, _, rfl, rfl, .inl (.inl hl), at0, 45, edgeT q0, congrArg V.str da_eq, rfl, _, rfl, ?_⟩
  rw [decide_eq_true (edge_dash q0)]
  refine iteF ?_
  refine fun N hN => ?_
  have w0 : Rws Ps H (upd H N (.dK [])) N [] (incs ((edgeL t ys).take 0)) (2 * 0) := ⟨.new hN, upd_same, fun r hr => absurd hr List.not_mem_nil, .nil, .nil, fun r hr => absurd hr List.not_mem_nil, fun r hr => absurd hr List.not_mem_nil, fun v _ => rfl, fun r hr => absurd hr List.not_mem_nil, Nat.le_refl _, fun r hr => absurd hr List.not_mem_nil⟩
  have el := edges_len ok pm
  refine ⟨_, rfl, l, rfl, ⟨_, .inl (.inl (w0.e.get ht hl fun _ z => HO.noConfusion z))⟩, ?_⟩
  refine for_list (K := K) (xs := ((edgeL t ys).map edgeT).map V.str) (fun i σ' G => ∃ (v2 v3 v4 v5 : Option V) (zs : List Row), σ' = [some (.ref l), some (.ref N), v2, v3, v4, v5] ∧ Rws Ps H G N zs (incs ((edgeL t ys).take i)) (2 * i))
    ⟨_, _, _, _, [], rfl, w0⟩ (fun i σ' G _ ⟨_, _, _, _, _, _, w⟩ => .inl (.inl (w.e.get ht hl fun _ z => HO.noConfusion z))) ?_ ?_
  · rintro i xv σ' G hx ⟨v2, v3, v4, v5, zs, rfl, w⟩
    rw [List.getElem?_map, List.getElem?_map] at hx
    cases hy : (edgeL t ys)[i]? with
    | none => rw [hy] at hx; cases hx
    | some q =>
    rw [hy] at hx
    have hx : some (V.str (edgeT q)) = some xv := hx
    cases hx
    have il : i < (edgeL t ys).length := (List.getElem?_eq_some_iff.mp hy).1
    have qm := List.mem_of_getElem? hy
    obtain ⟨n1, n2⟩ := edge_names ok qm
    have wl := (wfr (edgeT q) (by rw [ew]; exact List.mem_map.mpr ⟨q, qm, rfl⟩)).2
    refine ⟨_, rfl, ⟨_, rfl⟩, _, _, rfl, rfl, by decide +kernel, by rw [sizeLine_eq]; omega, fun T hT => ?_⟩
    have ep : Txt.partition (edgeT q) "-" = (q.1, ("-" : Str), q.2) := edge_part n1
    rw [ep]
    have w1 := w.same (snew (o := .tup [.str q.1, .str "-", .str q.2]) hT)
    have hT1 : upd G T (.tup [.str q.1, .str "-", .str q.2]) T = some (.tup [.str q.1, .str "-", .str q.2]) := upd_same
    generalize upd G T (.tup [.str q.1, .str "-", .str q.2]) = G1 at w1 hT1
    refine ⟨T, [_, _, _], rfl, .inl (.inl hT1), rfl, _, [_, _], rfl, _, [_], rfl, _, [], rfl, rfl, ?_⟩
    dsimp only
    refine seq_drop (fun G' => ∃ zs', Rws Ps H G' N zs' (fun u => if u = q.1 then incs ((edgeL t ys).take i) u ++ [q.2] else incs ((edgeL t ys).take i) u) (2 * i + 1)) (fun Q' hQ' => ?_) ?_
    · refine ⟨_, rfl, N, rfl, .inl ⟨_, .inl w1.d⟩, _, rfl, by show 0 ≤ sizeLine; exact Nat.zero_le _, fun L hL => ?_⟩
      obtain ⟨kvs, k, h1, h2, h3, hA, hB⟩ := w1.step ht hN (by omega) (v := q.1) (z := q.2) (Q := fun G' => Q' .non G') hL fun G' zs' w' => hQ' _ _ ⟨zs', w'⟩
      refine ⟨kvs, k, h1, h2, h3, fun a ha => ?_, fun ha => ?_⟩
      · obtain ⟨l', xs, rfl, hl', len, z⟩ := hA a ha
        exact ⟨.inl ⟨rfl, _, .inl (.inl hl')⟩, _, rfl, l', xs, _, rfl, rfl, hl', len, z⟩
      · obtain ⟨hL', z⟩ := hB ha
        exact ⟨.inl ⟨rfl, _, .inl (.inl hL')⟩, _, rfl, L, [], _, rfl, rfl, hL', by decide, z⟩
    rintro G2 ⟨zs2, w2⟩
    refine one_drop (fun G' => ∃ zs', Rws Ps H G' N zs' (incs ((edgeL t ys).take (i + 1))) (2 * (i + 1))) (fun Q' hQ' => ?_) ?_
    · refine ⟨_, rfl, N, rfl, .inl ⟨_, .inl w2.d⟩, _, rfl, by show 0 ≤ sizeLine; exact Nat.zero_le _, fun L hL => ?_⟩
      have ef : (fun u => if u = q.2 then (if u = q.1 then incs ((edgeL t ys).take i) u ++ [q.2] else incs ((edgeL t ys).take i) u) ++ [q.1] else (if u = q.1 then incs ((edgeL t ys).take i) u ++ [q.2] else incs ((edgeL t ys).take i) u)) = incs ((edgeL t ys).take (i + 1)) := by
        funext u
        rw [List.take_succ, hy]
        show _ = incs ((edgeL t ys).take i ++ [q]) u
        rw [incs_snoc]
        have e1 : (q.1 = u) = (u = q.1) := propext ⟨Eq.symm, Eq.symm⟩
        have e2 : (q.2 = u) = (u = q.2) := propext ⟨Eq.symm, Eq.symm⟩
        by_cases c1 : u = q.1 <;> by_cases c2 : u = q.2
        · rw [if_pos c2, if_pos c1, if_pos c1.symm, if_pos c2.symm, List.append_assoc]
        · rw [if_neg c2, if_pos c1, if_pos c1.symm, if_neg fun z => c2 z.symm, List.append_nil]
        · rw [if_pos c2, if_neg c1, if_neg fun z => c1 z.symm, if_pos c2.symm, List.nil_append]
        · rw [if_neg c2, if_neg c1, if_neg fun z => c1 z.symm, if_neg fun z => c2 z.symm, List.append_nil, List.append_nil]
      obtain ⟨kvs, k, h1, h2, h3, hA, hB⟩ := w2.step ht hN (by omega) (v := q.2) (z := q.1) (Q := fun G' => Q' .non G') hL fun G' zs' w' => hQ' _ _ ⟨zs', by rw [← ef]; exact w'⟩
      refine ⟨kvs, k, h1, h2, h3, fun a ha => ?_, fun ha => ?_⟩
      · obtain ⟨l', xs, rfl, hl', len, z⟩ := hA a ha
        exact ⟨.inl ⟨rfl, _, .inl (.inl hl')⟩, _, rfl, l', xs, _, rfl, rfl, hl', len, z⟩
      · obtain ⟨hL', z⟩ := hB ha
        exact ⟨.inl ⟨rfl, _, .inl (.inl hL')⟩, _, rfl, L, [], _, rfl, rfl, hL', by decide, z⟩
    rintro G3 ⟨zs3, w3⟩
    exact ⟨_, _, _, _, zs3, rfl, w3⟩
  rintro σ' G ⟨v2, v3, v4, v5, zs, rfl, w⟩
  rw [List.length_map, List.length_map, List.take_length] at w
  have inc : ∀ {r : Row}, r ∈ t → incs (edgeL t ys) r.1 = nbO t r.1 := fun {r} hr => by rw [ok.nbAt hr]; exact incs_nb ok so pm hr
  have zin : ∀ v, v ∈ zs.map (·.1) ↔ v ∈ ys := fun v => by
    constructor
    · intro hv
      obtain ⟨r, hr, er⟩ := List.mem_map.mp hv
      have er : r.1 = v := er
      have ne := w.ne r hr
      rw [w.val r hr, er] at ne
      obtain ⟨z, hz⟩ := List.exists_mem_of_ne_nil _ ne
      rcases mem_incs.mp hz with k | k
      · exact (mem_edgeL7.mp k).1
      · exact pm.symm.subset (nbO_sym ok (mem_edgeL7.mp k).2.1).2
    · intro hv
      refine Classical.byContradiction fun hz => ?_
      have e := w.non v hz
      obtain ⟨r, hr, er⟩ := List.mem_map.mp (pm.subset hv)
      have er : r.1 = v := er
      rw [← er, inc hr, ok.nbAt hr] at e
      exact edges_some ok pm h hr e
  have zlen : zs.length ≤ 40 := by
    have h1 := OkTree.deg.nodup_sub (xs := zs.map (·.1)) (ys := ys) w.nd fun y hy => (zin y).mp hy
    have h2 := pm.length_eq
    rw [List.length_map] at h1 h2
    omega
  refine ⟨_, rfl, N, kvsOf zs, zs.map (·.1), rfl, .inl w.d, nmEqK, by rw [List.length_map]; omega, fun us so2 pm2 sos2 hs0 => ?_⟩
  have eus : us = ys := sorted_eq sos2 (pm2.symm.nodup w.nd) so ydn fun k => by rw [pm2.mem_iff, zin]
  subst eus
  have s3 : Same G (upd G so2 (.lst (us.map V.str))) := snew hs0
  have hso3 : upd G so2 (.lst (us.map V.str)) so2 = some (.lst (us.map V.str)) := upd_same
  generalize upd G so2 (.lst (us.map V.str)) = G3 at s3 hso3
  have w3 := w.same s3
  have t3 := w3.e.tabs ht
  have eK : (us.map V.str).length = us.length := List.length_map _
  have uslen : us.length ≤ 40 := by
    have := pm2.length_eq
    rw [List.length_map] at this
    omega
  refine ⟨so2, rfl, ⟨_, .inl (.inl hso3)⟩, fun D hD => ?_⟩
  refine dc_it (walk_list (K := K) (a := so2) (xs := us.map V.str)) (fun i H' => ∃ vt : List Row, Same G3 H' ∧ H' D = some (.dK (kvsOf vt)) ∧ vt.map (·.1) = us.take i ∧ (∀ e ∈ vt, e ∈ zs) ∧ (vt.map (·.2.1)).Nodup)
    ⟨[], snew hD, upd_same, rfl, fun e he => absurd he List.not_mem_nil, .nil⟩ (fun i H' _ ⟨_, s, _⟩ => .inl (.inl (s _ _ hso3))) ?_ ?_
  · rintro i x H' H'' hi ⟨vt, sm, hD', hnm, hen, hnd⟩ ⟨rfl, hx⟩
    rw [eK] at hi
    have hx' : (us.map V.str)[i]? = some x := hx
    rw [List.getElem?_map, List.getElem?_eq_getElem hi] at hx'
    have hy : us[i]? = some us[i] := List.getElem?_eq_getElem hi
    obtain ⟨v, hv, ev⟩ := List.mem_map.mp (pm2.subset (List.getElem_mem hi))
    rw [← ev] at hx' hy
    cases hx'
    have lt : vt.length = i := by
      have := congrArg List.length hnm
      rw [List.length_map, List.length_take] at this
      omega
    have new : v.1 ∉ vt.map (·.1) := by
      rw [hnm]
      have e : us.take (i + 1) = us.take i ++ [v.1] := by rw [List.take_succ, hy]; rfl
      have n2 := ydn.sublist (List.take_sublist (i + 1) us)
      rw [e, List.nodup_append] at n2
      exact fun z => n2.2.2 _ z _ List.mem_cons_self rfl
    refine ⟨rfl, _, rfl, _, rfl, _, rfl, N, _, rfl, .inl ⟨_, Sum.inr v.1, .inl (sm _ _ w3.d), rfl, (valV_row hv w.nd).symm⟩, ?_⟩
    refine ⟨kvsOf vt, Sum.inr v.1, rfl, hD', by rw [kvsOf_len, lt, sizeLine_eq]; omega, vt ++ [v], fun b o e => ?_, ?_, ?_, fun e he => ?_, ?_⟩
    · rw [upd_ne (ne_of_none e hD)]
      exact sm _ _ e
    · rw [upd_same, putK_new _ (kvsOf_none new), kvsOf, kvsOf, List.map_append]
      rfl
    · rw [List.map_append, hnm, List.take_succ, hy]
      rfl
    · rcases List.mem_append.mp he with z | z
      · exact hen e z
      · rw [List.mem_singleton.mp z]
        exact hv
    · rw [List.map_append]
      refine List.nodup_append.mpr ⟨hnd, by simp, fun a ha b hb e => ?_⟩
      obtain ⟨r, hr, er⟩ := List.mem_map.mp ha
      rw [show b = v.2.1 from List.mem_singleton.mp hb] at e
      have : r = v := inj_nd w.ad (hen r hr) hv (er.trans e)
      exact new (List.mem_map.mpr ⟨r, hr, by rw [this]⟩)
  · rintro H' ⟨vt, sm, hD', hnm, hen, hnd⟩
    rw [eK, List.take_length] at hnm
    refine hQ H' D vt (w3.e.trans (Ext.same sm)) (w3.e.none hD ht) hD' (fun r hr => sm _ _ (w3.rows r (hen r hr))) hnm (fun r hr => ⟨?_, w.fr r (hen r hr)⟩) hnd
    rw [w.val r (hen r hr)]
    obtain ⟨s, hs, es⟩ := List.mem_map.mp (pm.subset (show r.1 ∈ us by rw [← hnm]; exact List.mem_map.mpr ⟨r, hr, rfl⟩))
    have es : s.1 = r.1 := es
    rw [← es]
    exact inc hs
end
end A8
set_option Elab.async false
set_option linter.all false
set_option maxRecDepth 100000
set_option maxHeartbeats 8000000
namespace A8
open PySem PySem.Spec PyProof.Rows L2 AL
open GxR (TabB TabG Tabbed)
theorem OkTree.perm {t u : List Row} (ok : OkTree t) (h : (u.map fun r => (r.1, r.2.2)).Perm (t.map fun r => (r.1, r.2.2))) : OkTree u := by
  have len : u.length = t.length := by
    have := h.length_eq
    rw [List.length_map, List.length_map] at this
    exact this
  have fwd : ∀ r ∈ u, ∃ s ∈ t, s.1 = r.1 ∧ s.2.2 = r.2.2 := fun r hr => by
    obtain ⟨s, hs, e⟩ := List.mem_map.mp (h.subset (List.mem_map.mpr ⟨r, hr, rfl⟩))
    injection e with e1 e2
    exact ⟨s, hs, e1, e2⟩
  have bwd : ∀ s ∈ t, ∃ r ∈ u, r.1 = s.1 ∧ r.2.2 = s.2.2 := fun s hs => by
    obtain ⟨r, hr, e⟩ := List.mem_map.mp (h.symm.subset (List.mem_map.mpr ⟨s, hs, rfl⟩))
    injection e with e1 e2
    exact ⟨r, hr, e1, e2⟩
  have nm : (u.map (·.1)).Perm (t.map (·.1)) := by
    have := h.map fun q : Str × List Str => q.1
    rw [List.map_map, List.map_map] at this
    exact this
  have n1 := ok.n1
  have n40 := ok.n40
  refine ⟨by omega, by omega, fun r hr => ?_, nm.symm.nodup ok.nodup, fun r hr y hy => ?_, fun r hr hy => ?_, fun r hr => ?_, fun r hr s hs hy => ?_, ?_, fun S hS cl => ?_⟩
  · obtain ⟨s, hs, e, _⟩ := fwd r hr
    rw [← e]
    exact ok.names s hs
  · obtain ⟨s, hs, _, e⟩ := fwd r hr
    obtain ⟨q, hq, eq⟩ := ok.nbs s hs y (by rw [e]; exact hy)
    obtain ⟨q', hq', eq', _⟩ := bwd q hq
    exact ⟨q', hq', eq'.trans eq⟩
  · obtain ⟨s, hs, e1, e2⟩ := fwd r hr
    exact ok.self s hs (by rw [e1, e2]; exact hy)
  · obtain ⟨s, hs, _, e2⟩ := fwd r hr
    rw [← e2]
    exact ok.asc s hs
  · obtain ⟨a, ha, a1, a2⟩ := fwd r hr
    obtain ⟨b, hb, b1, b2⟩ := fwd s hs
    rw [← b2, ← a1]
    exact ok.sym a ha b hb (by rw [b1, a2]; exact hy)
  · have e := perm_sum' (h.map fun q : Str × List Str => q.2.length)
    rw [List.map_map, List.map_map] at e
    have e1 : (u.map fun r => r.2.2.length).sum = (t.map fun r => r.2.2.length).sum := e
    rw [e1, len]
    exact ok.ends
  · have all := ok.conn S (by
      obtain ⟨r, hr, h1⟩ := hS
      obtain ⟨s, hs, e, _⟩ := fwd r hr
      exact ⟨s, hs, by rw [e]; exact h1⟩) fun s hs h1 y hy => by
        obtain ⟨r, hr, e1, e2⟩ := bwd s hs
        exact cl r hr (by rw [e1]; exact h1) y (by rw [e2]; exact hy)
    intro r hr
    obtain ⟨s, hs, e, _⟩ := fwd r hr
    rw [← e]
    exact all s hs
/-- the tree and its copy, made behind HB -/
theorem zt_ok {t zt : List Row} {ys : List Str} (ok : OkTree t) (pm : ys.Perm (t.map (·.1))) (nm : zt.map (·.1) = ys) (v : ∀ r ∈ zt, r.2.2 = nbO t r.1) : OkTree zt := by
  have e1 : zt.map (fun r => (r.1, r.2.2)) = (zt.map (·.1)).map fun a => (a, nbO t a) := by
    rw [List.map_map]
    refine List.map_congr_left fun r hr => ?_
    show (r.1, r.2.2) = (r.1, nbO t r.1)
    rw [v r hr]
  have e2 : t.map (fun r => (r.1, r.2.2)) = (t.map (·.1)).map fun a => (a, nbO t a) := by
    rw [List.map_map]
    refine List.map_congr_left fun r hr => ?_
    show (r.1, r.2.2) = (r.1, nbO t r.1)
    rw [ok.nbAt hr]
  refine ok.perm ?_
  rw [e1, e2, nm]
  exact pm.map _
theorem zt_text {t zt : List Row} {ys : List Str} (ok : OkTree t) (okz : OkTree zt) (nm : zt.map (·.1) = ys) (v : ∀ r ∈ zt, r.2.2 = nbO t r.1) : treeT zt ys = treeT t ys := by
  have e : edgeL zt ys = edgeL t ys := tree_same fun y hy => by
    rw [← nm] at hy
    obtain ⟨r, hr, er⟩ := List.mem_map.mp hy
    have er : r.1 = y := er
    rw [← er, okz.nbAt hr, v r hr]
  unfold treeT wordsT
  rw [e]
abbrev sReadTree : Stmt := top 17
theorem scReadTree : FnScope ["text", "tree"] ["text"] (defScope sReadTree) := ⟨rfl, rfl, rfl, by decide +kernel, rfl, by decide +kernel, by decide +kernel⟩
def spReadTree (Ps : List Addr) : Sp := fun vs H Q _ => ∃ (t : List Row) (ys : List Str), vs = [.str (treeT t ys)] ∧ OkTree t ∧ ys.Perm (t.map (·.1)) ∧ sortedS ys = true ∧ Tabs Ps H ∧
  ∀ H' q (zt : List Row), Ext Ps H H' → H q = none → H' q = some (.dK (kvsOf zt)) → RowsAt H' zt → zt.map (·.1) = ys → (∀ r ∈ zt, r.2.2 = nbO t r.1 ∧ H r.2.1 = none) → (zt.map (·.2.1)).Nodup → Q (.ref q) H'
abbrev sTreeText : Stmt := top 25
abbrev nTreeText : List Str := ["tree", "found", "node", "other"]
theorem scTreeText : FnScope nTreeText ["tree"] (defScope sTreeText) := ⟨rfl, rfl, rfl, by decide +kernel, rfl, by decide +kernel, by decide +kernel⟩
def spTreeText : Sp := fun vs H Q _ => ∃ (d : Addr) (t : List Row), vs = [.ref d] ∧ H d = some (.dK (kvsOf t)) ∧ RowsAt H t ∧ OkTree t ∧ ∀ H' (ys : List Str), Same H H' → ys.Perm (t.map (·.1)) → sortedS ys = true → Q (.str (treeT t ys)) H'
abbrev rLtS : R2 := fun x y H Q => ∃ i j, x = .str i ∧ y = .str j ∧ Q (.bl (decide (i.cps.toList < j.cps.toList))) H
section
variable {P : Program} {w : World} {K : PySem.W.Frag} {mg : Str → Option Value} {base : Heap} {f c p1 : Addr} {fd : FuncData} {Ps : List Addr}
theorem ok_readTree (F : FunD K "read_tree" "read_tree" (defArgs sReadTree) (defBody sReadTree) (defScope sReadTree) [] [] f fd) (cC : Cal P w K mg base 1 "check_text" spCheckText) (cW : Cal P w K mg base 1 "_tree_of_words" (spOfWords Ps)) (cT : Cal P w K mg base 5 "is_tree" (spIsTree Ps)) (cS : Cal P w K mg base 8 "show_tree" (spShowTree Ps)) : FnOk P w K mg base CX0 9 f fd ["text"] (spReadTree Ps) := by
  refine F.ok scReadTree (fun vs H Q E h => ?_) ?_
  · obtain ⟨t, ys, rfl, _⟩ := h
    rfl
  intro cdv A outer s H vs Q E hr h
  refine ⟨_, PSs.nox (pss_cons (ps_expr (pe_c cC hr (by decide) rfl (pa_cons (pv 0) pa_nil)))
    (pss_cons (ps_set (i := 1) scReadTree.nd rfl (Or.inl rfl) (pe_c cW hr (by decide) rfl (pa_cons (pe_split (pv 0) pe_str) pa_nil)))
    (pss_cons (ps_if (PW.pt (pw_or (pt_not (pt_val (pe_c cT hr (by decide) rfl (pa_cons (pv 1) pa_nil)))) (pw_or1 (pt_cmpR op_ne (pe_c cS hr (by decide) rfl (pa_cons (pv 1) pa_nil)) (pv 0) rfl)))) pss_never pss_nil)
    (pss_one (ps_ret (pv 1)))))), ?_⟩
  obtain ⟨t, ys, rfl, ok, pm, so, ht, hQ⟩ := h
  have tl := tree_len ok pm
  have ts := tree_split ok pm
  have ydn : ys.Nodup := pm.symm.nodup ok.nodup
  have ztx := fun {zt : List Row} nm v => zt_text (zt := zt) (ys := ys) ok (zt_ok ok pm nm v) nm v
  obtain ⟨T, eT⟩ : ∃ T, T = treeT t ys := ⟨_, rfl⟩
  rw [← eT] at tl ts ⊢
  refine ⟨_, rfl, _, rfl, _, rfl, ⟨_, rfl⟩, _, _, rfl, rfl, by decide +kernel, by rw [sizeLine_eq]; omega, fun l hl => ?_⟩
  rw [ts]
  have e1 : Ext Ps H (upd H l (.lst ((wordsT t ys).map V.str))) := .new hl
  have hl1 : upd H l (.lst ((wordsT t ys).map V.str)) l = some (.lst ((wordsT t ys).map V.str)) := upd_same
  generalize upd H l (.lst ((wordsT t ys).map V.str)) = H1 at e1 hl1
  have t1 := e1.tabs ht
  refine ⟨l, t, ys, rfl, hl1, ok, pm, so, t1, fun H2 q zt e2 hq0 hq zR nm v ad => ?_⟩
  have okz := zt_ok ok pm nm fun r hr => (v r hr).1
  have t2 := e2.tabs t1
  refine ⟨_, rfl, q, zt, rfl, hq, zR, okz, t2, fun H3 e3 => ⟨true, rfl, iteF ?_⟩⟩
  have hq3 := e3.get t2 hq fun _ z => HO.noConfusion z
  have zR3 := e3.rows t2 zR
  have t3 := e3.tabs t2
  refine ⟨_, rfl, q, zt, rfl, hq3, zR3, okz, t3, fun H4 us e4 pm4 so4 => ?_⟩
  have eu : us = ys := sorted_eq so4 (pm4.symm.nodup okz.nodup) so ydn fun k => by rw [pm4.mem_iff, nm]
  rw [eu, ztx nm fun r hr => (v r hr).1, ← eT]
  refine ⟨_, rfl, rfl, _, rfl, iteNS rfl ?_⟩
  exact ⟨_, rfl, hQ H4 q zt (e1.trans (e2.trans (e3.trans e4))) (e1.none hq0 ht) (e4.get t3 hq3 fun _ z => HO.noConfusion z) (e4.rows t3 zR3) nm (fun r hr => ⟨(v r hr).1, e1.none (v r hr).2 ht⟩) ad⟩
theorem ok_treeText (F : FunD K "_law_tree_text" "_law_tree_text" (defArgs sTreeText) (defBody sTreeText) (defScope sTreeText) [] [] f fd) (gS : mg "sorted" = none) : FnOk P w K mg base CX0 1 f fd ["tree"] spTreeText := by
  refine F.ok scTreeText (fun vs H Q E h => ?_) ?_
  · obtain ⟨d, t, rfl, _⟩ := h
    rfl
  intro cdv A outer s H vs Q E hr h
  refine ⟨_, PSs.nox (pss_cons (ps_set (i := 1) scTreeText.nd rfl (Or.inl rfl) (pe_lst pa_nil))
    (pss_cons (ps_for PassesOwn.never rfl (pi_list (pe_callB (call_sortedD rfl) rfl gS (by decide +kernel) (pa_cons (pv 0) pa_nil))) (pg_name (i := 2) scTreeText.nd rfl (Or.inr rfl))
      (pss_one (ps_expr (pe_bm PySem.F.plainAttrs_list PySem.F.slot_list_extend PySem.F.type_list_extend mt_extend (pv 1) (pa_cons (pe_lc (own := [("other", 3)]) (g := gName 3) (tt := tTest (tOp rLtS (tVar 2) (tVar 3))) (te := tOp rCatS (tOp rCatS (tVar 2) (tC (.str "-"))) (tVar 3)) rfl scTreeText.nd (pi_list (pe_dget (hu_of hr) (pv 0) (pv 2) (fun _ _ => rfl))) (blkOk_by (N := nTreeText) (sc := defScope sTreeText) (by decide +kernel))
        (fun _ _ _ _ _ => pg_name (i := 3) scTreeText.nd rfl (Or.inl rfl)) (fun _ _ _ _ _ => pts_one (pt_cmpR op_lt_str (pv 2) (pv 3) (nomark _))) (fun _ _ _ _ _ => pe_op op_add_str (pe_op op_add_str (pv 2) pe_str) (pv 3))) pa_nil)))))
    (pss_one (ps_ret (pe_ifExp (pt_cmpR (op_neD hr.units) (pv 1) (pe_lst pa_nil) (nomark _)) (pe_join pe_str (pe_callB cr_sortedS rfl gS (by decide +kernel) (pa_cons (pv 1) pa_nil)))
      (pe_ix ix_list (pe_callB (call_sortedD rfl) rfl gS (by decide +kernel) (pa_cons (pv 0) pa_nil)) pe_int (fun _ _ => rfl))))))), ?_⟩
  obtain ⟨d, t, rfl, hd, hR, ok, hQ⟩ := h
  have n40 := ok.n40
  have lc : ("-" : Str).length = 1 := by decide +kernel
  refine ⟨by show 0 ≤ sizeLine; exact Nat.zero_le _, fun N hN => ?_⟩
  have s1 : Same H (upd H N (.lst [])) := snew hN
  have hN1 : upd H N (.lst []) N = some (.lst (([] : List Str).map V.str)) := upd_same
  generalize upd H N (.lst []) = H1 at s1 hN1
  refine ⟨_, rfl, d, kvsOf t, t.map (·.1), rfl, .inl (s1 _ _ hd), nmEqK, by rw [List.length_map]; omega, fun ys so pm sos hs0 => ?_⟩
  have s2 : Same H1 (upd H1 so (.lst (ys.map V.str))) := snew hs0
  have hso2 : upd H1 so (.lst (ys.map V.str)) so = some (.lst (ys.map V.str)) := upd_same
  have hN2 := s2 _ _ hN1
  generalize upd H1 so (.lst (ys.map V.str)) = H2 at s2 hso2 hN2
  have soN : so ≠ N := fun z => by rw [z, hN1] at hs0; cases hs0
  have s02 : Same H H2 := s1.trans s2
  have yl := pm.length_eq
  rw [List.length_map] at yl
  have ydn : ys.Nodup := pm.symm.nodup ok.nodup
  have ec := edgeL_count ok pm
  refine ⟨so, rfl, ⟨_, .inl (.inl hso2)⟩, ?_⟩
  refine for_list (K := K) (xs := ys.map V.str) (fun i σ' G => ∃ v2 v3, σ' = [some (.ref d), some (.ref N), v2, v3] ∧ Same H G ∧ G so = some (.lst (ys.map V.str)) ∧ G N = some (.lst (((edgeL t (ys.take i)).map edgeT).map V.str)))
    ⟨_, _, rfl, s02, hso2, hN2⟩ (fun i σ' G _ ⟨_, _, _, _, h, _⟩ => .inl (.inl h)) ?_ ?_
  · rintro i xv σ' G hx ⟨v2, v3, rfl, sm, hsG, hNG⟩
    rw [List.getElem?_map] at hx
    cases hy : ys[i]? with
    | none => rw [hy] at hx; cases hx
    | some y =>
    rw [hy] at hx
    cases hx
    have il : i < ys.length := (List.getElem?_eq_some_iff.mp hy).1
    obtain ⟨r, hr, er⟩ := List.mem_map.mp (pm.subset (List.mem_of_getElem? hy))
    have er : r.1 = y := er
    subst er
    have dg := ok.deg hr
    have l1 := name_len (ok.names r hr)
    have hrG := sm _ _ (hR r hr)
    have up1 : (edgeL t (ys.take i)).length ≤ 40 * i := by
      have go : ∀ l : List Str, (∀ y ∈ l, (nbO t y).length ≤ 40) → (edgeL t l).length ≤ 40 * l.length := fun l => by
        induction l with
        | nil => intro _; exact Nat.zero_le _
        | cons y l ih =>
          intro h
          have h1 := h y List.mem_cons_self
          have h2 := ih fun z hz => h z (List.mem_cons_of_mem _ hz)
          have h3 := upE_len y (nbO t y)
          show ((upE y (nbO t y)) ++ edgeL t l).length ≤ _
          rw [List.length_append, List.length_cons]
          omega
      have := go (ys.take i) fun y hy => by
        obtain ⟨s, hs, es⟩ := List.mem_map.mp (pm.subset (List.mem_of_mem_take hy))
        have es : s.1 = y := es
        rw [← es, ok.nbAt hs]
        exact ok.deg hs
      rw [List.length_take] at this
      omega
    refine ⟨_, rfl, .inl ⟨rfl, _, .inl (.inl hNG)⟩, ?_⟩
    refine ⟨_, rfl, _, rfl, d, _, rfl, .inl ⟨_, Sum.inr r.1, .inl (sm _ _ hd), rfl, (ok.at_ hr).symm⟩, r.2.1, rfl, ⟨_, .inl (.inl hrG)⟩, fun D hD => ?_⟩
    have DN : N ≠ D := ne_of_none hNG hD
    have up : ∀ j, (upE r.1 (r.2.2.take j)).length ≤ 40 := fun j => by
      have h1 := upE_len r.1 (r.2.2.take j)
      have h2 : (r.2.2.take j).length ≤ r.2.2.length := by rw [List.length_take]; omega
      omega
    refine lc_list (K := K) (xs := r.2.2.map V.str) (fun j G' => G' = upd G D (.lst (((upE r.1 (r.2.2.take j)).map edgeT).map V.str))) rfl (fun j G' _ e => by
      rw [e]
      exact .inl (.inl (by rw [upd_ne (ne_of_none hrG hD)]; exact hrG))) ?_ ?_
    · rintro j x G' hx rfl
      rw [List.getElem?_map] at hx
      cases hz : r.2.2[j]? with
      | none => rw [hz] at hx; cases hx
      | some z =>
      rw [hz] at hx
      cases hx
      have zm := List.mem_of_getElem? hz
      have l2 := name_len (ok.nameOf hr zm)
      have step : upE r.1 (r.2.2.take (j + 1)) = upE r.1 (r.2.2.take j) ++ if sLt r.1 z then [(r.1, z)] else [] := by
        rw [List.take_succ, hz]
        exact upE_snoc _ _ _
      refine ⟨rfl, _, rfl, _, rfl, _, _, rfl, rfl, _, rfl, ite2 (fun h => ?_) fun h => ?_⟩
      · have lt : sLt r.1 z := of_decide_eq_true h
        refine ⟨_, rfl, _, _, rfl, rfl, by rw [lc, sizeLine_eq]; omega, _, rfl, _, _, rfl, rfl, by rw [len_app, lc, sizeLine_eq]; omega, _, upd_same, by rw [List.length_map, List.length_map, sizeLine_eq]; have := up j; omega, ?_⟩
        rw [upd_upd, step, if_pos lt, List.map_append, List.map_append]
        rfl
      · have nlt : ¬ sLt r.1 z := fun z => h (decide_eq_true z)
        show _ = _
        rw [step, if_neg nlt, List.append_nil]
    rintro G' rfl
    rw [List.length_map, List.take_length]
    have hD1 : upd G D (.lst (((upE r.1 r.2.2).map edgeT).map V.str)) D = some (.lst (((upE r.1 r.2.2).map edgeT).map V.str)) := upd_same
    have hN3 : upd G D (.lst (((upE r.1 r.2.2).map edgeT).map V.str)) N = some (.lst (((edgeL t (ys.take i)).map edgeT).map V.str)) := by rw [upd_ne DN]; exact hNG
    refine ⟨N, D, _, _, rfl, rfl, hN3, hD1, by rw [List.length_map, List.length_map, List.length_map, List.length_map, sizeLine_eq]; have := up r.2.2.length; rw [List.take_length] at this; omega, ?_⟩
    refine ⟨_, _, rfl, fun b o e => ?_, ?_, ?_⟩
    · rw [upd_ne (ne_of_none e hN), upd_ne (ne_of_none (sm _ _ e) hD)]
      exact sm _ _ e
    · rw [upd_ne soN, upd_ne (ne_of_none hsG hD)]
      exact hsG
    · rw [upd_same, List.take_succ, hy]
      show _ = some (HO.lst (((edgeL t (ys.take i ++ [r.1])).map edgeT).map V.str))
      rw [edgeL_snoc, ok.nbAt hr, List.map_append, List.map_append]
  rintro σ' G ⟨v2, v3, rfl, sm, hsG, hNG⟩
  rw [List.length_map, List.take_length] at hNG
  refine ⟨_, rfl, by show 0 ≤ sizeLine; exact Nat.zero_le _, fun z0 hz0 => ?_⟩
  have s3 : Same G (upd G z0 (.lst [])) := snew hz0
  have hz1 : upd G z0 (.lst []) z0 = some (.lst []) := upd_same
  generalize upd G z0 (.lst []) = G3 at s3 hz1
  have hN3 := s3 _ _ hNG
  have asc : SeqAt.shaped (.list (((edgeL t ys).map edgeT).map .str)) = true := shaped_strs fun y hy => by
    obtain ⟨q, hq, rfl⟩ := List.mem_map.mp hy
    obtain ⟨n1, n2⟩ := edge_names ok hq
    intro c hc
    rw [edgeT_cps] at hc
    rcases List.mem_append.mp hc with w | w
    · exact n1.asc c w
    · rcases List.mem_cons.mp w with w | w
      · omega
      · exact n2.asc c w
  refine ⟨.list (((edgeL t ys).map edgeT).map .str), .list [], .lst (.inl (.inl hN3)) (dpAll_strs _), .lst (.inl (.inl hz1)) .nil, asc, rfl, _, rfl, ?_⟩
  by_cases h : edgeL t ys = []
  · rw [h]
    refine iteF ?_
    obtain ⟨r, er, ey⟩ := words_one ok pm h
    refine ⟨_, rfl, d, kvsOf t, t.map (·.1), rfl, .inl (s3 _ _ (sm _ _ hd)), nmEqK, by rw [List.length_map]; omega, fun us so2 pm2 sos2 hs2 => ?_⟩
    have eu : us = ys := sorted_eq sos2 (pm2.symm.nodup ok.nodup) sos ydn fun k => by rw [pm2.mem_iff, pm.mem_iff]
    subst eu
    refine ⟨so2, _, _, _, rfl, rfl, .inl (.inl upd_same), atI_nat (j := 0) (by rw [ey]; rfl), ?_⟩
    have := hQ (upd G3 so2 (.lst (us.map V.str))) us ((sm.trans s3).trans (snew hs2)) pm sos
    unfold treeT wordsT at this
    rw [if_pos h, TL.join_eq, ey] at this
    rw [ey]
    exact this
  · obtain ⟨q0, qr, eq⟩ : ∃ q0 qr, edgeL t ys = q0 :: qr := by
      cases q : edgeL t ys with
      | nil => exact (h q).elim
      | cons a b => exact ⟨a, b, rfl⟩
    have ne : PyData.eqv (.list (((edgeL t ys).map edgeT).map .str)) (.list []) = false := by rw [eq]; rfl
    rw [ne]
    refine iteT ?_
    refine ⟨⟨_, rfl⟩, _, rfl, N, (edgeL t ys).map edgeT, rfl, .inl (.inl hN3), by rw [List.length_map]; omega, fun us S pm2 sos2 hS => ?_⟩
    have pw := words_pw ok sos pm
    have eu : us = (edgeL t ys).map edgeT := sorted_eq.go (sortedS_pw sos2) (pm2.symm.nodup (pw_nodup pw)) (pw_weak pw) (pw_nodup pw) fun k => pm2.mem_iff
    refine ⟨" ", S, us, rfl, rfl, .inl (.inl (.inl upd_same)), ?_, ?_⟩
    · have h1 := sum_names (k := 17) (ys := (edgeL t ys).map edgeT) fun z hz => by
        obtain ⟨q, hq, rfl⟩ := List.mem_map.mp hz
        obtain ⟨n1, n2⟩ := edge_names ok hq
        have := name_len n1
        have := name_len n2
        unfold edgeT
        rw [len_app, len_app, lc]
        omega
      have lb : (" " : Str).length = 1 := by decide +kernel
      rw [eu, lb]
      rw [List.length_map] at h1 ⊢
      omega
    · have := hQ (upd G3 S (.lst (us.map V.str))) ys ((sm.trans s3).trans (snew hS)) pm sos
      unfold treeT wordsT at this
      rw [if_neg h, ← eu] at this
      exact this
end
end A8
set_option Elab.async false
set_option linter.all false
set_option maxRecDepth 100000
set_option maxHeartbeats 8000000
namespace A8
open PySem PySem.Spec PyProof.Rows L2 AL
open GxR (TabB TabG Tabbed)
theorem trD_same {t zt : List Row} {ys : List Str} (nz : zt.map (·.1) = ys) (vz : ∀ r ∈ zt, r.2.2 = nbO t r.1) : trD zt = .dict (ys.map fun y => (.str y, .list ((nbO t y).map .str))) := by
  unfold trD
  rw [← nz, List.map_map]
  refine congrArg _ (List.map_congr_left fun r hr => ?_)
  show (PyData.str r.1, PyData.list (r.2.2.map .str)) = (PyData.str r.1, PyData.list ((nbO t r.1).map .str))
  rw [vz r hr]
abbrev sRight : Stmt := top 26
abbrev nRight : List Str := ["tree", "kept", "text", "due", "node", "again", "told"]
theorem scRight : FnScope nRight ["tree"] (defScope sRight) := ⟨rfl, rfl, rfl, by decide +kernel, rfl, by decide +kernel, by decide +kernel⟩
def spRight (Ps : List Addr) : Sp := fun vs H Q _ => ∃ (d : Addr) (t : List Row), vs = [.ref d] ∧ H d = some (.dK (kvsOf t)) ∧ RowsAt H t ∧ OkTree t ∧ Tabs Ps H ∧ SysOk H ∧ ∀ H', Ext Ps H H' → Q (.bl true) H'
section
variable {P : Program} {w : World} {K : PySem.W.Frag} {mg : Str → Option Value} {base : Heap} {f c p1 : Addr} {fd : FuncData} {Ps : List Addr}
theorem ok_right (F : FunD K "_law_right" "_law_right" (defArgs sRight) (defBody sRight) (defScope sRight) [] [] f fd) (cT : Cal P w K mg base 1 "_law_tree_text" spTreeText) (cS : Cal P w K mg base 8 "show_tree" (spShowTree Ps)) (cR : Cal P w K mg base 9 "read_tree" (spReadTree Ps)) (gD : mg "dict" = none) (gS : mg "sorted" = none) (gR : mg "range" = none) (gE : mg "repr" = none) : FnG P w K mg base CX0 10 f fd ["tree"] (spRight Ps) := by
  refine funG_ok F scRight (fun vs H Q E h => ?_) ?_
  · obtain ⟨l, xs, rfl, _⟩ := h
    rfl
  intro cdv A outer s H vs Q E hgd hr h
  refine ⟨_, PSs.nox (pss_cons (ps_par (i := 1) (j := 2) rfl scRight.nd rfl rfl (by decide) rfl rfl (pa_cons (pe_callB (call_reprD hr hgd) rfl gE (by decide +kernel) (pa_cons (pv 0) pa_nil)) (pa_cons (pe_c cT hr (by decide) rfl (pa_cons (pv 0) pa_nil)) pa_nil)) (by rfl))
    (pss_cons (ps_set (i := 3) scRight.nd rfl (Or.inr rfl) (pe_callTy (call_dictP rfl) rfl gD (by decide +kernel) (pa_cons (pe_lc (own := [("node", 4)]) (g := gName 4) (tt := tYes) (te := tTup (tCons (tVar 4) (tCons (tDGet (tVar 0) (tVar 4)) tNil))) rfl scRight.nd (pi_list (pe_callB (call_sortedD rfl) rfl gS (by decide +kernel) (pa_cons (pv 0) pa_nil))) (blkOk_by (N := nRight) (sc := defScope sRight) (by decide +kernel))
        (fun _ _ _ _ _ => pg_name (i := 4) scRight.nd rfl (Or.inl rfl)) (fun _ _ _ _ _ => pts_nil) (fun _ _ _ _ _ => pe_tup (pa_cons (pv 4) (pa_cons (pe_dget (hu_of hr) (pv 0) (pv 4) (fun _ _ => rfl)) pa_nil)))) pa_nil)))
    (pss_cons (ps_if (PW.pt (pw_or (pt_cmpR op_ne (pe_c cS hr (by decide) rfl (pa_cons (pv 0) pa_nil)) (pv 2) rfl) (pw_or1 (pt_cmpR op_ne (pe_callB (call_reprD hr hgd) rfl gE (by decide +kernel) (pa_cons (pv 0) pa_nil)) (pv 1) rfl)))) pss_never pss_nil)
    (pss_cons (ps_for PassesOwn.never rfl (pi_range1 rfl gR (pa_cons pe_int pa_nil)) (pg_name (i := 5) scRight.nd rfl (Or.inl rfl))
      (pss_cons (ps_set (i := 6) scRight.nd rfl (Or.inr rfl) (pe_c cR hr (by decide) rfl (pa_cons (pv 2) pa_nil)))
      (pss_cons (ps_if (pt_cmpR op_ne (pe_callB (call_reprD hr hgd) rfl gE (by decide +kernel) (pa_cons (pv 6) pa_nil)) (pe_callB (call_reprD hr hgd) rfl gE (by decide +kernel) (pa_cons (pv 3) pa_nil)) rfl) pss_never pss_nil)
      (pss_cons (ps_for PassesOwn.never rfl (pi_list (pe_callB (call_sortedD rfl) rfl gS (by decide +kernel) (pa_cons (pv 6) pa_nil))) (pg_name (i := 4) scRight.nd rfl (Or.inl rfl))
        (pss_one (ps_expr (pe_bm PySem.F.plainAttrs_list PySem.F.slot_list_append PySem.F.type_list_append mt_append (pe_dget (hu_of hr) (pv 6) (pv 4) (fun _ _ => rfl)) (pa_cons pe_str pa_nil)))))
      (pss_cons (ps_if (pt_cmpR (op_neD hr.units) (pe_lock (pe_lc (own := [("node", 4)]) (g := gName 4) (tt := tTest (tOp (rNeD K) (tDGet (tVar 6) (tVar 4)) (tOp rCat (tDGet (tVar 3) (tVar 4)) (tLst (tCons (tC (.str "odd")) tNil))))) (te := tVar 4) rfl scRight.nd (pi_keys (pv 3)) (blkOk_by (N := nRight) (sc := defScope sRight) (by decide +kernel))
          (fun _ _ _ _ _ => pg_name (i := 4) scRight.nd rfl (Or.inl rfl)) (fun _ _ _ _ _ => pts_one (pt_cmpR (op_neD hr.units) (pe_dget (hu_of hr) (pv 6) (pv 4) (fun _ _ => rfl)) (pe_op op_cat (pe_dget (hu_of hr) (pv 3) (pv 4) (fun _ _ => rfl)) (pe_lst (pa_cons pe_str pa_nil))) (nomark _))) (fun _ _ _ _ _ => pv 4))) (pe_lst pa_nil) (nomark _)) pss_never pss_nil)
      (pss_one (ps_expr (pe_bm0 PySem.F.plainAttrs_dict PySem.F.slot_dict_clear PySem.F.type_dict_clear mtd_clear (pv 6)))))))))
    (pss_one (ps_ret pe_bl)))))), ?_⟩
  obtain ⟨d, t, rfl, hd, hR, ok, ht, hY, hQ⟩ := h
  have n40 := ok.n40
  have sT := sm_tree ok
  have nmK : ∀ {u : List Row}, (kvsOf u).map (·.1) = (u.map (·.1)).map Sum.inr := fun {u} => by unfold kvsOf; rw [List.map_map, List.map_map]; rfl
  -- kept, text
  refine ⟨_, rfl, d, trD t, rfl, hY, dat_tree hd hR, sT.sh, Nat.le_trans sT.dp (by decide), sT.fits (by decide), ?_⟩
  refine ⟨_, rfl, d, t, rfl, hd, hR, ok, fun H1 ys s1 pm sos => ⟨_, _, rfl, ?_⟩⟩
  have ynd : ys.Nodup := pm.symm.nodup ok.nodup
  have eys : ∀ {zs us : List Str}, us.Perm zs → (∀ k, k ∈ zs ↔ k ∈ ys) → zs.Nodup → sortedS us = true → us = ys := fun pm2 e nd so2 => sorted_eq so2 (pm2.symm.nodup nd) sos ynd fun k => by rw [pm2.mem_iff, e]
  have mE : ∀ k, k ∈ t.map (·.1) ↔ k ∈ ys := fun k => by rw [pm.mem_iff]
  have yl := pm.length_eq
  rw [List.length_map] at yl
  obtain ⟨T, eT⟩ : ∃ T, T = treeT t ys := ⟨_, rfl⟩
  dsimp only
  rw [← eT]
  have hd1 := s1 _ _ hd
  -- due
  refine ⟨_, rfl, d, kvsOf t, t.map (·.1), rfl, .inl hd1, nmK, by rw [List.length_map]; omega, fun us so pm2 so2 hs0 => ?_⟩
  rw [eys pm2 mE ok.nodup so2]
  have s2 : Same H1 (upd H1 so (.lst (ys.map V.str))) := snew hs0
  have hso2 : upd H1 so (.lst (ys.map V.str)) so = some (.lst (ys.map V.str)) := upd_same
  generalize upd H1 so (.lst (ys.map V.str)) = H2 at s2 hso2
  have s02 : Same H H2 := s1.trans s2
  have hd2 := s02 _ _ hd
  refine ⟨so, rfl, ⟨_, .inl (.inl hso2)⟩, fun D hD => ?_⟩
  refine lc_list (K := K) (xs := ys.map V.str) (fun i G => ∃ (dt : List Row) (tps : List Addr), Same H2 G ∧ G D = some (.lst (tps.map V.ref)) ∧ dt.map (·.1) = ys.take i ∧ TupsAt G tps dt ∧ ∀ r ∈ dt, r ∈ t)
    ⟨[], [], snew hD, upd_same, rfl, .nil, fun r hr => absurd hr List.not_mem_nil⟩ (fun i G _ ⟨_, _, sm, _⟩ => .inl (.inl (sm _ _ hso2))) ?_ ?_
  · rintro i x G hx ⟨dt, tps, sm, hd', hnm, htp, hin⟩
    rw [List.getElem?_map] at hx
    cases hy : ys[i]? with
    | none => rw [hy] at hx; cases hx
    | some y =>
      rw [hy] at hx
      cases hx
      have hi := at_lt hy
      obtain ⟨r, hr, er⟩ := List.mem_map.mp (pm.subset (List.mem_of_getElem? hy))
      have er : r.1 = y := er
      subst er
      have len : tps.length = i := by
        have e := congrArg List.length hnm
        rw [List.length_map, List.length_take] at e
        rw [htp.len]
        omega
      refine ⟨rfl, _, rfl, _, rfl, _, rfl, d, _, rfl, .inl ⟨_, Sum.inr r.1, .inl (sm _ _ hd2), rfl, (valV_row hr ok.nodup).symm⟩, by show 2 ≤ sizeLine; decide, fun tp htp0 => ?_⟩
      have Dt : D ≠ tp := ne_of_none hd' htp0
      refine ⟨tps.map V.ref, by rw [upd_ne Dt]; exact hd', by rw [List.length_map, len, sizeLine_eq]; omega, dt ++ [r], tps ++ [tp], fun b o e => ?_, ?_, ?_, ?_, fun r' hr' => ?_⟩
      · rw [upd_ne (ne_of_none e hD), upd_ne (ne_of_none (sm _ _ e) htp0)]
        exact sm _ _ e
      · rw [upd_same, List.map_append]
        rfl
      · rw [List.map_append, hnm, List.take_succ, hy]
        rfl
      · refine TupsAt.snoc (htp.keep fun b xs e => ?_) ?_
        · have z2 : b ≠ D := fun z => by rw [z, hd'] at e; cases e
          rw [upd_ne z2, upd_ne (ne_of_none e htp0)]
          exact e
        · rw [upd_ne (Ne.symm Dt)]
          exact upd_same
      · rcases List.mem_append.mp hr' with z | z
        · exact hin r' z
        · rw [List.mem_singleton.mp z]
          exact hr
  rintro G ⟨dt, tps, sm, hDG, hnm, htp, hin⟩
  rw [List.length_map, List.take_length] at hnm
  have dnd : (dt.map (·.1)).Nodup := by rw [hnm]; exact ynd
  refine ⟨D, tps, kvsOf dt, rfl, .inl (.inl hDG), htp.pairs, fun U hU => ?_⟩
  rw [mergeK_rows0 dnd]
  have s3 : Same H (upd G U (.dK (kvsOf dt))) := (s02.trans sm).trans (snew hU)
  have hU3 : upd G U (.dK (kvsOf dt)) U = some (.dK (kvsOf dt)) := upd_same
  have HU : H U = none := (s02.trans sm).free hU
  generalize upd G U (.dK (kvsOf dt)) = H3 at s3 hU3
  have e3 : Ext Ps H H3 := Ext.same s3
  have t3 := e3.tabs ht
  have hd3 := s3 _ _ hd
  have hR3 : RowsAt H3 t := fun r hr => s3 _ _ (hR r hr)
  have dR3 : RowsAt H3 dt := fun r hr => hR3 r (hin r hr)
  have dl := congrArg List.length hnm
  rw [List.length_map] at dl
  have dlg : ∀ r ∈ dt, r.2.2 = nbO t r.1 := fun r hr => (ok.nbAt (hin r hr)).symm
  have dok : OkTree dt := zt_ok ok pm hnm dlg
  have sD := sm_tree dok
  -- show_logs, repr
  refine ⟨_, rfl, d, t, rfl, hd3, hR3, ok, t3, fun H4 us4 e4 pm4 so4 => ?_⟩
  rw [eys pm4 mE ok.nodup so4, ← eT]
  have e04 := e3.trans e4
  have t4 := e04.tabs ht
  have hd4 := e4.get t3 hd3 fun _ z => HO.noConfusion z
  have hR4 := e4.rows t3 hR3
  have hU4 := e4.get t3 hU3 fun _ z => HO.noConfusion z
  have dR4 := e4.rows t3 dR3
  have Y4 := e04.sys ht hY
  refine ⟨_, rfl, rfl, _, rfl, iteNS rfl ?_⟩
  refine ⟨_, rfl, d, trD t, rfl, Y4, dat_tree hd4 hR4, sT.sh, Nat.le_trans sT.dp (by decide), sT.fits (by decide), _, rfl, rfl, _, rfl, iteNS rfl ?_⟩
  refine ⟨2, rfl, by decide, by decide, ?_⟩
  refine for_range (lo := 0) (n := 2) (fun i σ' G => ∃ v4 v5 v6, σ' = [some (.ref d), some (.str (trD t).shown), some (.str T), some (.ref U), v4, v5, v6] ∧ Ext Ps H4 G) ⟨_, _, _, rfl, Ext.refl⟩ ?_ ?_
  · rintro i σ' G0 hi ⟨v4, v5, v6, rfl, eG⟩
    have tG := eG.tabs t4
    have YG := eG.sys t4 Y4
    have hUG := eG.get t4 hU4 fun _ z => HO.noConfusion z
    have dRG := eG.rows t4 dR4
    -- told
    refine ⟨_, rfl, t, ys, by rw [eT]; rfl, ok, pm, sos, tG, fun G1 q zt e1 hq0 hq zR znm zs zad => ?_⟩
    have znd : (zt.map (·.1)).Nodup := by rw [znm]; exact ynd
    have zl := congrArg List.length znm
    rw [List.length_map] at zl
    have eD : trD zt = trD dt := (trD_same znm fun r hr => (zs r hr).1).trans (trD_same hnm dlg).symm
    have T1 := e1.tabs tG
    have Y1 := e1.sys tG YG
    have hU1 := e1.get tG hUG fun _ z => HO.noConfusion z
    have dR1 := e1.rows tG dRG
    refine ⟨_, rfl, q, trD zt, rfl, Y1, dat_tree hq zR, by rw [eD]; exact sD.sh, by rw [eD]; exact Nat.le_trans sD.dp (by decide), by rw [eD]; exact sD.fits (by decide), ?_⟩
    refine ⟨_, rfl, U, trD dt, rfl, Y1, dat_tree hU1 dR1, sD.sh, Nat.le_trans sD.dp (by decide), sD.fits (by decide), rfl, _, rfl, iteNS (by rw [eD]) ?_⟩
    -- 'odd'
    refine ⟨_, rfl, q, kvsOf zt, zt.map (·.1), rfl, .inl hq, nmK, by rw [List.length_map]; omega, fun us5 so5 pm5 sos5 hs5 => ?_⟩
    rw [eys pm5 (fun k => by rw [znm]) znd sos5]
    have s2 : Same G1 (upd G1 so5 (.lst (ys.map V.str))) := snew hs5
    have hso5 : upd G1 so5 (.lst (ys.map V.str)) so5 = some (.lst (ys.map V.str)) := upd_same
    generalize upd G1 so5 (.lst (ys.map V.str)) = G2 at s2 hso5
    have e2 : Ext Ps G0 G2 := e1.trans (Ext.same s2)
    have zfree : ∀ r ∈ zt, G0 r.2.1 = none := fun r hr => (zs r hr).2
    have so5z : ∀ r ∈ zt, so5 ≠ r.2.1 := fun r hr z => by
      have := zR r hr
      rw [← z, hs5] at this
      cases this
    refine ⟨so5, rfl, ⟨_, .inl (.inl hso5)⟩, ?_⟩
    refine for_list (K := K) (xs := ys.map V.str) (fun j σ' G => ∃ v4, σ' = [some (.ref d), some (.str (trD t).shown), some (.str T), some (.ref U), v4, some (.int (0 + (i : Int))), some (.ref q)] ∧ Ext Ps G0 G ∧ G so5 = some (.lst (ys.map V.str)) ∧ G q = some (.dK (kvsOf zt)) ∧ ∀ r ∈ zt, G r.2.1 = some (.lst ((if r.1 ∈ ys.take j then r.2.2 ++ [("odd" : Str)] else r.2.2).map V.str)))
      ⟨_, rfl, e2, hso5, s2 _ _ hq, fun r hr => by rw [List.take_zero, if_neg List.not_mem_nil]; exact s2 _ _ (zR r hr)⟩ (fun j σ' G _ ⟨_, _, _, h, _⟩ => .inl (.inl h)) ?_ ?_
    · rintro j xv σ' G hx ⟨v4, rfl, eJ, hsJ, hqJ, zJ⟩
      rw [List.getElem?_map] at hx
      cases hy : ys[j]? with
      | none => rw [hy] at hx; cases hx
      | some y =>
      rw [hy] at hx
      cases hx
      obtain ⟨r, hr, er⟩ := List.mem_map.mp (show y ∈ zt.map (·.1) by rw [znm]; exact List.mem_of_getElem? hy)
      have er : r.1 = y := er
      subst er
      have tk2 : ys.take (j + 1) = ys.take j ++ [r.1] := by rw [List.take_succ, hy]; rfl
      have nin : r.1 ∉ ys.take j := fun z => by
        have nd2 : (ys.take j ++ [r.1]).Nodup := by rw [← tk2]; exact ynd.sublist (List.take_sublist _ _)
        exact (List.nodup_append.mp nd2).2.2 r.1 z r.1 List.mem_cons_self rfl
      have hr1 := zJ r hr
      rw [if_neg nin] at hr1
      have rl : r.2.2.length ≤ 400 := by
        have okz := zt_ok ok pm znm fun r hr => (zs r hr).1
        have := okz.deg hr
        omega
      refine ⟨_, rfl, _, rfl, q, _, rfl, .inl ⟨_, Sum.inr r.1, .inl hqJ, rfl, (valV_row hr znd).symm⟩, .inl ⟨rfl, _, .inl (.inl hr1)⟩, r.2.1, _, _, rfl, rfl, hr1, by rw [List.length_map, sizeLine_eq]; omega, ?_⟩
      refine ⟨_, rfl, eJ.put (zfree r hr) (notPs tG (zfree r hr)), ?_, ?_, fun s hs => ?_⟩
      · rw [upd_ne (so5z r hr)]
        exact hsJ
      · rw [upd_ne fun z => by rw [z, hr1] at hqJ; cases hqJ]
        exact hqJ
      · by_cases e : s.1 = r.1
        · have es : s = r := by
            obtain ⟨a, ha, ea⟩ := List.mem_iff_getElem.mp hs
            obtain ⟨b, hb, eb⟩ := List.mem_iff_getElem.mp hr
            have e1 : (zt.map (·.1))[a]'(by rw [List.length_map]; exact ha) = (zt.map (·.1))[b]'(by rw [List.length_map]; exact hb) := by
              rw [List.getElem_map, List.getElem_map, ea, eb, e]
            have ij : a = b := (List.getElem_inj znd).mp e1
            subst ij
            rw [← ea, ← eb]
          rw [es, upd_same, tk2, if_pos (List.mem_append_right _ List.mem_cons_self), List.map_append]
          rfl
        · have na : s.2.1 ≠ r.2.1 := fun z => by
            obtain ⟨a, ha, ea⟩ := List.mem_iff_getElem.mp hs
            obtain ⟨b, hb, eb⟩ := List.mem_iff_getElem.mp hr
            have e1 : (zt.map (·.2.1))[a]'(by rw [List.length_map]; exact ha) = (zt.map (·.2.1))[b]'(by rw [List.length_map]; exact hb) := by
              rw [List.getElem_map, List.getElem_map, ea, eb, z]
            have ij : a = b := (List.getElem_inj zad).mp e1
            subst ij
            exact e (by rw [← ea, ← eb])
          rw [upd_ne na, zJ s hs, tk2]
          have : (s.1 ∈ ys.take j ++ [r.1]) ↔ s.1 ∈ ys.take j := ⟨fun z => (List.mem_append.mp z).elim id fun w => (e (List.mem_singleton.mp w)).elim, List.mem_append_left _⟩
          by_cases c : s.1 ∈ ys.take j
          · rw [if_pos c, if_pos (this.mpr c)]
          · rw [if_neg c, if_neg fun z => c (this.mp z)]
    rintro σ' G ⟨v4, rfl, eJ, hsJ, hqJ, zJ⟩
    rw [List.length_map, List.take_length] at zJ
    have zJ : ∀ r ∈ zt, G r.2.1 = some (.lst ((r.2.2 ++ [("odd" : Str)]).map V.str)) := fun r hr => by
      have := zJ r hr
      rw [if_pos (show r.1 ∈ ys by rw [← znm]; exact List.mem_map.mpr ⟨r, hr, rfl⟩)] at this
      exact this
    have hUJ := eJ.get tG hUG fun _ z => HO.noConfusion z
    have dRJ := eJ.rows tG dRG
    have qU : q ≠ U := fun z => by rw [z, hUG] at hq0; cases hq0
    refine ⟨U, _, hUJ, trivial, fun od => ?_⟩
    have f4 : upd G U (.frz od (.dK (kvsOf dt))) U = some (.frz od (.dK (kvsOf dt))) := upd_same
    have k4 : ∀ {b : Addr} {o : HO}, G b = some o → b ≠ U → upd G U (.frz od (.dK (kvsOf dt))) b = some o := fun e ne => by rw [upd_ne ne]; exact e
    have dd : ∀ {b : Addr} {xs : List V}, G b = some (.lst xs) → b ≠ U := fun {b xs} e z => by
      rw [z, hUJ] at e
      cases e
    obtain ⟨G4, eG4⟩ : ∃ G4, G4 = upd G U (.frz od (.dK (kvsOf dt))) := ⟨_, rfl⟩
    rw [← eG4] at f4 k4
    rw [← eG4]
    refine ⟨_, rfl, U, od, rfl, .inl ⟨kvsOf dt, f4, fun D9 hD9 => ?_⟩⟩
    refine lc_it walk_keys (fun k H' => Same G4 H' ∧ H' D9 = some (.lst [])) ⟨snew hD9, upd_same⟩ (fun k H' _ h => h.1 _ _ f4) ?_ ?_
    · rintro k x H' H'' hk ⟨sm9, hD'⟩ ⟨rfl, kk, vv', hkv, rfl⟩
      obtain ⟨r, hrk, hrt, rfl, rfl⟩ := kvsOf_at hkv
      obtain ⟨z, hz, ez⟩ := List.mem_map.mp (show r.1 ∈ zt.map (·.1) by rw [znm, ← hnm]; exact List.mem_map.mpr ⟨r, hrt, rfl⟩)
      have ez : z.1 = r.1 := ez
      have elz : z.2.2 = r.2.2 := by rw [(zs z hz).1, dlg r hrt, ez]
      have h1 := sm9 _ _ (k4 (zJ z hz) (dd (zJ z hz)))
      have h2 := sm9 _ _ (k4 (dRJ r hrt) (dd (dRJ r hrt)))
      have rl := dok.deg hrt
      refine ⟨rfl, _, rfl, _, rfl, q, _, rfl, .inl ⟨_, Sum.inr r.1, .inl (sm9 _ _ (k4 hqJ qU)), rfl, by rw [← ez]; exact (valV_row hz znd).symm⟩, _, rfl, _, rfl, U, _, rfl, .inl ⟨_, Sum.inr r.1, .inr ⟨od, sm9 _ _ f4⟩, rfl, (valV_row hrt dnd).symm⟩, by show 1 ≤ sizeLine; decide, fun L1 hL1 => ?_⟩
      have t1 : Same H'' (upd H'' L1 (.lst [V.str "odd"])) := snew hL1
      have g1 : upd H'' L1 (.lst [V.str "odd"]) L1 = some (.lst [V.str "odd"]) := upd_same
      generalize upd H'' L1 (.lst [V.str "odd"]) = I1 at t1 g1
      refine ⟨r.2.1, L1, _, _, rfl, rfl, t1 _ _ h2, g1, by rw [List.length_map, sizeLine_eq]; show r.2.2.length + 1 ≤ _; omega, fun L2 hL2 => ?_⟩
      have t2 : Same I1 (upd I1 L2 (.lst (r.2.2.map V.str ++ [V.str "odd"]))) := snew hL2
      have g2 : upd I1 L2 (.lst (r.2.2.map V.str ++ [V.str "odd"])) L2 = some (.lst ((r.2.2 ++ [("odd" : Str)]).map V.str)) := by rw [upd_same, List.map_append]; rfl
      generalize upd I1 L2 (.lst (r.2.2.map V.str ++ [V.str "odd"])) = I2 at t2 g2
      have t12 : Same H'' I2 := t1.trans t2
      have h3 := t12 _ _ h1
      rw [elz] at h3
      have sh := shaped_strs (xs := r.2.2 ++ [("odd" : Str)]) fun y hy => by
        rcases List.mem_append.mp hy with w | w
        · exact (dok.nameOf hrt w).asc
        · rw [List.mem_singleton.mp w]
          exact (nameB_ok (x := "odd") (by decide +kernel)).asc
      refine ⟨_, _, .lst (.inl (.inl h3)) (dpAll_strs _), .lst (.inl (.inl g2)) (dpAll_strs _), sh, sh, false, ?_, iteF ⟨sm9.trans t12, t12 _ _ hD'⟩⟩
      show V.bl (!PyData.eqvAll ((r.2.2 ++ [("odd" : Str)]).map PyData.str) ((r.2.2 ++ [("odd" : Str)]).map PyData.str)) = V.bl false
      rw [eqvAll_strs]
      rfl
    · rintro H9 ⟨sm9, hD9'⟩
      refine ⟨sm9 _ _ f4, by show 0 ≤ sizeLine; exact Nat.zero_le _, fun z hz => ?_⟩
      have Dd : D9 ≠ U := fun w => by rw [w, sm9 _ _ f4] at hD9'; cases hD9'
      have zD : D9 ≠ z := fun w => by
        rw [← w, upd_ne Dd, hD9'] at hz
        cases hz
      refine ⟨.list [], .list [], .lst (.inl (.inl ?_)) .nil, .lst (.inl (.inl upd_same)) .nil, rfl, rfl, false, rfl, iteF ?_⟩
      · rw [upd_ne zD, upd_ne Dd]
        exact hD9'
      have e9 : Ext Ps G (upd H9 U (.dK (kvsOf dt))) := by
        refine Ext.unlock (o := od) hUJ (fun _ z => by cases z) ?_
        rw [← eG4]
        exact Ext.same sm9
      have e10 := e9.trans (.new (Ps := Ps) (o := .lst []) hz)
      have hq10 := e10.get (eJ.tabs tG) hqJ fun _ z => HO.noConfusion z
      have e11 := (eJ.trans e10).put (o := .dK []) hq0 (notPs tG hq0)
      exact ⟨_, rfl, .inr (.inr (.inl ⟨rfl, .inl ⟨_, hq10⟩⟩)), q, _, rfl, rfl, hq10, _, _, _, rfl, eG.trans e11⟩
  · rintro σ' G ⟨v4, v5, v6, rfl, eG⟩
    have hdG := eG.get t4 hd4 fun _ z => HO.noConfusion z
    have hRG := eG.rows t4 hR4
    exact hQ _ (e04.trans eG)
end
end A8
set_option Elab.async false
set_option linter.all false
set_option maxRecDepth 100000
set_option maxHeartbeats 8000000
namespace A8
open PySem PySem.Spec PyProof.Rows L2 AL
open GxR (TabB TabG Tabbed)
abbrev sLaw : Stmt := top 27
abbrev nLaw : List Str := ["script", "k", "source", "tree", "node"]
theorem scLaw : FnScope nLaw ["script"] (defScope sLaw) := ⟨rfl, rfl, rfl, by decide +kernel, rfl, by decide +kernel, by decide +kernel⟩
def spLaw (K : PySem.W.Frag) (Ps : List Addr) : Sp := fun vs H Q _ => ∃ (a : Addr) (ns : List Int), vs = [.ref a] ∧ ns.length ≤ 63 ∧ SqL K H a (ns.map V.int) ∧ Tabs Ps H ∧ SysOk H ∧ ∀ H', Q (.bl true) H'
structure Jk (K : PySem.W.Frag) (Ps : List Addr) (a : Addr) (ns : List Int) (H : Hp) : Prop where
  tabs : Tabs Ps H
  sys : SysOk H
  scr : SqL K H a (ns.map V.int)
theorem Jk.ext {K : PySem.W.Frag} {Ps : List Addr} {a : Addr} {ns : List Int} {H H' : Hp} (j : Jk K Ps a ns H) (e : Ext Ps H H') : Jk K Ps a ns H' := by
  refine ⟨e.tabs j.tabs, e.sys j.tabs j.sys, ?_⟩
  rcases j.scr with h | h
  · exact .inl (e.rd j.tabs h fun _ z => by cases z)
  · exact .inr h
theorem pick4 {i : Int} (i0 : 0 ≤ i) (i1 : i < 4) : ∃ m : Nat, atI [V.int 3, V.int 12, V.int 12, V.int 40] i = some (.int m) ∧ 1 ≤ m ∧ m ≤ 40 := by
  have : i = 0 ∨ i = 1 ∨ i = 2 ∨ i = 3 := by omega
  rcases this with rfl | rfl | rfl | rfl
  · exact ⟨3, rfl, by decide, by decide⟩
  · exact ⟨12, rfl, by decide, by decide⟩
  · exact ⟨12, rfl, by decide, by decide⟩
  · exact ⟨40, rfl, by decide, by decide⟩
theorem atI_of {α : Type} {xs : List α} {j : Int} (j0 : 0 ≤ j) (j1 : j < xs.length) : ∃ v, atI xs j = some v ∧ v ∈ xs := by
  obtain ⟨n, rfl⟩ : ∃ n : Nat, j = n := ⟨j.toNat, (Int.toNat_of_nonneg j0).symm⟩
  have hn : n < xs.length := by omega
  exact ⟨xs[n], atI_nat (List.getElem?_eq_getElem hn), List.getElem_mem hn⟩
theorem atI_str {xs : List Str} {j : Int} (j0 : 0 ≤ j) (j1 : j < xs.length) : ∃ y, atI (xs.map V.str) j = some (.str y) ∧ y ∈ xs := by
  obtain ⟨v, hv, hm⟩ := atI_of (xs := xs.map V.str) j0 (by rw [List.length_map]; exact j1)
  obtain ⟨y, hy, rfl⟩ := List.mem_map.mp hm
  exact ⟨y, hv, hy⟩
theorem m_out : ("m" : Str) ∉ poolL := by decide +kernel
theorem okTree_zz (el : Addr) : OkTree [("zz", el, [])] where
  n1 := Nat.le_refl 1
  n40 := by show 1 ≤ 40; decide
  names := fun r hr => by
    rw [List.mem_singleton.mp hr]
    show NameOk "zz"
    exact nameB_ok (by decide +kernel)
  nodup := by simp
  nbs := fun r hr y hy => by
    rw [List.mem_singleton.mp hr] at hy
    exact absurd hy List.not_mem_nil
  self := fun r hr h => by
    rw [List.mem_singleton.mp hr] at h
    exact absurd h List.not_mem_nil
  asc := fun r hr => by
    rw [List.mem_singleton.mp hr]
    exact ⟨rfl, .nil⟩
  sym := fun r hr s hs h => by
    rw [List.mem_singleton.mp hr] at h
    exact absurd h List.not_mem_nil
  ends := rfl
  conn := fun S ⟨r, hr, h⟩ _ s hs => by
    rw [List.mem_singleton.mp hs]
    rw [List.mem_singleton.mp hr] at h
    exact h
theorem text_zz (el : Addr) : treeT [("zz", el, [])] ["zz"] = "zz" := by
  have e : edgeL [(("zz" : Str), el, ([] : List Str))] ["zz"] = [] := by
    have := edgeL_count (okTree_zz el) (ys := ["zz"]) (.refl _)
    exact List.length_eq_zero_iff.mp (by simpa using this)
  unfold treeT wordsT
  rw [if_pos e, TL.join_eq]
  rfl
theorem PotAt.same {H H' : Hp} {p : Addr} {n : Nat} (h : PotAt H p n) (s : Same H H') : PotAt H' p n := by
  obtain ⟨x, y, z, e, r⟩ := h
  exact ⟨x, y, z, s _ _ e, r⟩
section
variable {P : Program} {w : World} {K : PySem.W.Frag} {mg : Str → Option Value} {base : Heap} {f c p1 fr : Addr} {fd fdr : FuncData} {Ps : List Addr}
theorem ok_law (F : FunD K "law" "law" (defArgs sLaw) (defBody sLaw) (defScope sLaw) [] [] f fd)
    (cP : Cal P w K mg base 1 "_law_source" (spSrc K)) (cA : Cal P w K mg base 1 "_law_pick" spPick) (cT : Cal P w K mg base 3 "_law_tree" spTree) (cR : Cal P w K mg base 9 "read_tree" (spReadTree Ps))
    (fR : FnG P w K mg base CX0 10 fr fdr ["tree"] (spRight Ps)) (hmR : mg "_law_right" = some (.ref fr)) (kR : PySem.W.keepIn K (.ref fr) = true) (bR : Binds K fdr ["tree"] [])
    (gR : mg "range" = none) (gL : mg "len" = none) (gM : mg "max" = none) (gN : mg "min" = none) (gS : mg "sorted" = none) : FnG P w K mg base CX0 11 f fd ["script"] (spLaw K Ps) := by
  refine funG_ok F scLaw (fun vs H Q E h => ?_) ?_
  · obtain ⟨a, ns, rfl, _⟩ := h
    rfl
  intro cdv A outer s H vs Q E hgd hr h
  refine ⟨_, PSs.nox (pss_cons (ps_for PassesOwn.never rfl (pi_range1 rfl gR (pa_cons (pe_callB (call_max2 rfl) rfl gM (by decide +kernel) (pa_cons pe_int (pa_cons (pe_callB (call_min2 rfl) rfl gN (by decide +kernel) (pa_cons pe_int (pa_cons (pe_op op_add (pe_callB call_len_seq rfl gL boot_len (pa_cons (pv 0) pa_nil)) pe_int) pa_nil))) pa_nil))) pa_nil)) (pg_name (i := 1) scLaw.nd rfl (Or.inl rfl))
      (pss_cons (ps_set (i := 2) scLaw.nd rfl (Or.inl rfl) (pe_c cP hr (by decide) rfl (pa_cons (pv 0) (pa_cons (pv 1) pa_nil))))
      (pss_cons (ps_set (i := 3) scLaw.nd rfl (Or.inl rfl) (pe_c cT hr (by decide) rfl (pa_cons (pv 2) (pa_cons (pe_ix ix_list (pe_lst (pa_cons pe_int (pa_cons pe_int (pa_cons pe_int (pa_cons pe_int pa_nil))))) (pe_c cA hr (by decide) rfl (pa_cons (pv 2) (pa_cons pe_int pa_nil))) (fun _ _ => rfl)) pa_nil))))
      (pss_cons (ps_if (pt_not (pt_val (pe_callG fR hgd hr rfl hmR kR bR .nil pass0 (pa_cons (pv 3) pa_nil)))) pss_never pss_nil)
      (pss_one (ps_if (pt_cmpR op_lt (pe_callB call_lenD rfl gL boot_len (pa_cons (pv 3) pa_nil)) pe_int (nomark _))
        (pss_cons (ps_set (i := 4) scLaw.nd rfl (Or.inl rfl) (pe_ix ix_list (pe_callB (call_sortedD rfl) rfl gS (by decide +kernel) (pa_cons (pv 3) pa_nil)) (pe_c cA hr (by decide) rfl (pa_cons (pv 2) (pa_cons (pe_callB call_lenD rfl gL boot_len (pa_cons (pv 3) pa_nil)) pa_nil))) (fun _ _ => rfl)))
        (pss_cons (ps_dput (hu_of hr) (pv 3) (pv 4) (pe_callB cr_sortedS rfl gS (by decide +kernel) (pa_cons (pe_op op_cat (pe_dget (hu_of hr) (pv 3) (pv 4) (fun _ _ => rfl)) (pe_lst (pa_cons pe_str pa_nil))) pa_nil)) rfl)
        (pss_cons (ps_dput (hu_of hr) (pv 3) pe_str (pe_lst (pa_cons (pv 4) pa_nil)) rfl)
        (pss_one (ps_if (pt_not (pt_val (pe_callG fR hgd hr rfl hmR kR bR .nil pass0 (pa_cons (pv 3) pa_nil)))) pss_never pss_nil))))) pss_nil))))))
    (pss_one (ps_ret (pe_cmpR (op_eqV hr.units) (pe_c cR hr (by decide) rfl (pa_cons pe_str pa_nil)) (pe_disp (pps_cons pe_str (pe_lst pa_nil) pps_nil) rfl rfl (by decide) (by decide)) (nomark _))))), ?_⟩
  obtain ⟨a, ns, rfl, hl63, hS, hT, hY, hQ⟩ := h
  obtain ⟨j0, ej0, j01, j08⟩ : ∃ j0 : Int, (if (if (((ns.map V.int).length : Int)) + 1 < 8 then (((ns.map V.int).length : Int)) + 1 else 8) > 1 then (if (((ns.map V.int).length : Int)) + 1 < 8 then (((ns.map V.int).length : Int)) + 1 else 8) else 1) = j0 ∧ 0 ≤ j0 ∧ j0 ≤ 8 := ⟨_, rfl, by split <;> (try split) <;> omega, by split <;> (try split) <;> omega⟩
  refine ⟨_, rfl, a, _, rfl, .inl hS, _, _, rfl, rfl, _, _, rfl, _, _, rfl, _, rfl, ?_⟩
  rw [ej0]
  refine ⟨by omega, by omega, ?_⟩
  refine for_range (lo := 0) (n := j0.toNat) (fun i σ' H' => ∃ v1 v2 v3 v4, σ' = [some (.ref a), v1, v2, v3, v4] ∧ Jk K Ps a ns H') ⟨_, _, _, _, rfl, hT, hY, hS⟩ ?_ ?_
  · rintro i σ' HB hi ⟨v1, v2, v3, v4, rfl, jB⟩
    have hi8 : i < 8 := by omega
    refine ⟨_, rfl, _, rfl, a, ns, i, by rw [Int.zero_add]; rfl, jB.scr, by omega, fun p x y hp0 x0 y0 y1 => ?_⟩
    have hP1 : PotAt (upd HB p (.lst [.int x, .int y, .int 0])) p 0 := ⟨x, y, 0, upd_same, x0, y0, y1, by decide, by decide⟩
    have e1 : Ext Ps HB (upd HB p (.lst [.int x, .int y, .int 0])) := .new hp0
    generalize upd HB p (.lst [.int x, .int y, .int 0]) = H1 at hP1 e1
    refine ⟨_, rfl, by show 4 ≤ sizeLine; decide, fun L hL => ?_⟩
    have Lp : L ≠ p := hP1.ne hL
    have e2 : Ext Ps HB (upd H1 L (.lst [.int 3, .int 12, .int 12, .int 40])) := e1.trans (.new hL)
    have hP2 := hP1.upd (o := .lst [.int 3, .int 12, .int 12, .int 40]) (Ne.symm Lp)
    have hL2 : upd H1 L (.lst [.int 3, .int 12, .int 12, .int 40]) L = some (.lst [.int 3, .int 12, .int 12, .int 40]) := upd_same
    generalize upd H1 L (.lst [.int 3, .int 12, .int 12, .int 40]) = H2 at e2 hP2 hL2
    refine ⟨_, rfl, p, 4, 0, rfl, hP2, by omega, by decide, by decide, fun H3 z hP3 only3 z0 z1 => ?_⟩
    obtain ⟨m, hm, m1, m40⟩ := pick4 z0 z1
    have e3 := e2.kp' hp0 hP2 (Kp.of only3)
    refine ⟨L, _, _, _, rfl, rfl, .inl (.inl ((only3 L Lp).trans hL2)), hm, p, m, 1, rfl, hP3, by omega, m1, m40, fun H4 d t k4 hd0 hd hR ok tl tpool tad tfr hP4 => ?_⟩
    have e4 := e3.kp' hp0 hP3 k4
    have d0 := e3.none hd0 jB.tabs
    have n40 := ok.n40
    have n1 := ok.n1
    have t4 := e4.tabs jB.tabs
    refine ⟨_, rfl, d, t, rfl, hd, hR, ok, t4, e4.sys jB.tabs jB.sys, fun H5 e5 => ⟨true, rfl, iteF ?_⟩⟩
    have E5 := e4.trans e5
    have t5 := E5.tabs jB.tabs
    have hd5 := e5.get t4 hd fun _ z => HO.noConfusion z
    have hR5 := e5.rows t4 hR
    have hP5 := hP4.ext e5 t4
    refine ⟨_, rfl, d, _, rfl, hd5, _, _, rfl, rfl, _, rfl, ite2 (fun hlt => ?_) fun _ => ?_⟩
    · have h39 : t.length < 40 := by
        have := of_decide_eq_true hlt
        rw [kvsOf_len] at this
        omega
      refine ⟨_, rfl, d, kvsOf t, t.map (·.1), rfl, .inl hd5, nmEqK, by rw [List.length_map]; omega, fun us so2 pm2 hso2 hs20 => ?_⟩
      have sA : Same H5 (upd H5 so2 (.lst (us.map V.str))) := snew hs20
      have hsoA : upd H5 so2 (.lst (us.map V.str)) so2 = some (.lst (us.map V.str)) := upd_same
      generalize upd H5 so2 (.lst (us.map V.str)) = HA at sA hsoA
      have hPA := hP5.same sA
      have sop : so2 ≠ p := hPA.ne' hsoA names_ne_pot
      have ul : us.length = t.length := by
        have := pm2.length_eq
        rw [List.length_map] at this
        exact this
      refine ⟨_, rfl, _, rfl, d, _, rfl, sA _ _ hd5, p, _, _, rfl, hPA, by omega, by rw [kvsOf_len]; omega, by rw [kvsOf_len]; omega, fun HC jz hPC onlyC j0' j1' => ?_⟩
      rw [kvsOf_len] at j1'
      obtain ⟨z, hz, mz⟩ := atI_str (xs := us) j0' (by omega)
      have kC : Kp p HA HC := Kp.of onlyC
      have dp : d ≠ p := hP5.ne' hd5 fun _ _ _ z => HO.noConfusion z
      have eC : Ext Ps HB HC := (E5.trans (Ext.same sA)).kp' hp0 hPA kC
      have dC := kC _ _ dp (sA _ _ hd5)
      have RC : RowsAt HC t := fun r hr => kC _ _ (hPA.ne' (sA _ _ (hR5 r hr)) names_ne_pot) (sA _ _ (hR5 r hr))
      have hsoC : HC so2 = some (.lst (us.map V.str)) := (onlyC so2 sop).trans hsoA
      obtain ⟨v, hv, ev⟩ := List.mem_map.mp (pm2.subset mz)
      subst ev
      refine ⟨so2, _, _, _, rfl, rfl, .inl (.inl hsoC), hz, ?_⟩
      -- the leaf
      have TreC : TreeAt HC d t := ⟨.inl dC, RC⟩
      have dgv := ok.deg hv
      refine ⟨_, rfl, _, rfl, d, _, rfl, TreC.get ok hv, by show 1 ≤ sizeLine; decide, fun l1 hl1 => ?_⟩
      have s1 : Same HC (upd HC l1 (.lst [.str "m"])) := snew hl1
      have b1 : upd HC l1 (.lst [.str "m"]) l1 = some (.lst [.str "m"]) := upd_same
      generalize upd HC l1 (.lst [.str "m"]) = F1 at s1 b1
      refine ⟨v.2.1, l1, _, _, rfl, rfl, s1 _ _ (RC v hv), b1, by rw [List.length_map, sizeLine_eq]; show _ + 1 ≤ _; omega, fun l2 hl2 => ?_⟩
      have s2 : Same F1 (upd F1 l2 (.lst (v.2.2.map V.str ++ [.str "m"]))) := snew hl2
      have b2 : upd F1 l2 (.lst (v.2.2.map V.str ++ [.str "m"])) l2 = some (.lst ((v.2.2 ++ [("m" : Str)]).map V.str)) := by rw [upd_same, List.map_append]; rfl
      generalize upd F1 l2 (.lst (v.2.2.map V.str ++ [.str "m"])) = F2 at s2 b2
      refine ⟨l2, v.2.2 ++ [("m" : Str)], rfl, .inl (.inl b2), by rw [List.length_append]; show _ + 1 < 64; omega, fun ws l3 pm3 so3 hl3 => ?_⟩
      have s3 : Same F2 (upd F2 l3 (.lst (ws.map V.str))) := snew hl3
      have b3 : upd F2 l3 (.lst (ws.map V.str)) l3 = some (.lst (ws.map V.str)) := upd_same
      generalize upd F2 l3 (.lst (ws.map V.str)) = F3 at s3 b3
      have sC3 : Same HC F3 := s1.trans (s2.trans s3)
      have d3 := sC3 _ _ dC
      have R3 : RowsAt F3 t := fun r hr => sC3 _ _ (RC r hr)
      have e3F := eC.trans (Ext.same sC3)
      have l3d : l3 ≠ d := fun z => by
        rw [z, d3] at b3
        cases b3
      refine ⟨_, rfl, _, rfl, d, _, rfl, DPut.k (k := Sum.inr v.1) (kvs := kvsOf t) d3 (by rw [kvsOf_len, sizeLine_eq]; omega), ?_⟩
      rw [rowPut_kv (ws := ws) (List.mem_map.mpr ⟨v, hv, rfl⟩)]
      have eX : Ext Ps HB (upd F3 d (.dK (kvsOf (rowPut t v.1 l3 ws)))) := e3F.put d0 (notPs jB.tabs d0)
      have dX : upd F3 d (.dK (kvsOf (rowPut t v.1 l3 ws))) d = some (.dK (kvsOf (rowPut t v.1 l3 ws))) := upd_same
      have kX : ∀ b o, b ≠ d → F3 b = some o → upd F3 d (.dK (kvsOf (rowPut t v.1 l3 ws))) b = some o := fun b o h e => by rw [upd_ne h]; exact e
      generalize upd F3 d (.dK (kvsOf (rowPut t v.1 l3 ws))) = FX at eX dX kX
      have hx : ("m" : Str) ∉ t.map (·.1) := fun z => by
        obtain ⟨r, hr, e⟩ := List.mem_map.mp z
        exact m_out (e ▸ tpool r hr)
      have rd : ∀ {u : List Row}, RowsAt F3 u → ∀ r ∈ u, r.2.1 ≠ d := fun {u} h r hr z => by
        have := h r hr
        rw [z, d3] at this
        cases this
      refine ⟨_, rfl, by show 1 ≤ sizeLine; decide, fun l0 hl0 => ⟨_, rfl, d, _, rfl, DPut.k (k := Sum.inr "m") (kvs := kvsOf (rowPut t v.1 l3 ws)) ?_ (by rw [kvsOf_len, rowPut, List.length_map, sizeLine_eq]; omega), ?_⟩⟩
      · rw [upd_ne (ne_of_none dX hl0)]
        exact dX
      have l0d : l0 ≠ d := Ne.symm (ne_of_none dX hl0)
      have kvE : putK (kvsOf (rowPut t v.1 l3 ws)) (Sum.inr "m") (.ref l0) = kvsOf (rowPut t v.1 l3 ws ++ [(("m" : Str), l0, [v.1])]) := by
        rw [putK_new _ (kvsOf_none (by rw [rowPut_nm]; exact hx)), kvsOf, kvsOf, List.map_append]
        rfl
      rw [kvE]
      have JX : Join t "m" v.1 (rowPut t v.1 l3 ws ++ [(("m" : Str), l0, [v.1])]) := by
        refine ⟨by rw [List.map_append, rowPut_nm]; exact List.perm_append_comm, fun r hr => ?_⟩
        rcases List.mem_append.mp hr with z | z
        · rcases rowPut_mem z with ⟨h1, _, h3⟩ | ⟨h1, h⟩
          · exact .inr ⟨v, hv, h1.symm, .inr ⟨h1, by rw [h3]; exact pm3, by rw [h3]; exact so3⟩⟩
          · exact .inr ⟨r, h, rfl, .inl ⟨h1, rfl⟩⟩
        · rw [List.mem_singleton.mp z]
          exact .inl ⟨rfl, rfl⟩
      have okX : OkTree (rowPut t v.1 l3 ws ++ [(("m" : Str), l0, [v.1])]) := JX.ok ok (nameB_ok (by decide +kernel)) hx (List.mem_map.mpr ⟨v, hv, rfl⟩) (by omega)
      have eZ : Ext Ps HB (upd (upd FX l0 (.lst [.str v.1])) d (.dK (kvsOf (rowPut t v.1 l3 ws ++ [(("m" : Str), l0, [v.1])])))) := (eX.trans (.new hl0)).put d0 (notPs jB.tabs d0)
      have RZ : RowsAt (upd (upd FX l0 (.lst [.str v.1])) d (.dK (kvsOf (rowPut t v.1 l3 ws ++ [(("m" : Str), l0, [v.1])])))) (rowPut t v.1 l3 ws ++ [(("m" : Str), l0, [v.1])]) := fun r hr => by
        rcases List.mem_append.mp hr with z | z
        · rcases rowPut_mem z with ⟨_, h2, h3⟩ | ⟨_, h⟩
          · have w := kX _ _ l3d b3
            rw [h2, h3, upd_ne l3d, upd_ne (ne_of_none w hl0)]
            exact w
          · have w := kX _ _ (rd R3 r h) (R3 r h)
            rw [upd_ne (rd R3 r h), upd_ne (ne_of_none w hl0)]
            exact w
        · rw [List.mem_singleton.mp z, upd_ne l0d]
          exact upd_same
      refine ⟨_, rfl, d, _, rfl, upd_same, RZ, okX, eZ.tabs jB.tabs, eZ.sys jB.tabs jB.sys, fun H8 e8 => ⟨true, rfl, iteF ?_⟩⟩
      exact ⟨_, _, _, _, rfl, jB.ext (eZ.trans e8)⟩
    · exact ⟨_, _, _, _, rfl, jB.ext E5⟩
  · rintro σ' H' ⟨v1, v2, v3, v4, rfl, j⟩
    refine ⟨[("zz", 0, [])], ["zz"], by rw [text_zz]; rfl, okTree_zz 0, .refl _, by decide +kernel, j.tabs, fun H1 q zt e1 hq0 hq zR nm v ad => ?_⟩
    obtain ⟨r, er⟩ : ∃ r, zt = [r] := by
      have l := congrArg List.length nm
      rw [List.length_map] at l
      exact List.length_eq_one_iff.mp l
    subst er
    have en : r.1 = "zz" := by injection nm
    have ev : r.2.2 = [] := by
      rw [(v r List.mem_cons_self).1, en]
      exact (okTree_zz 0).nbAt (s := ("zz", 0, [])) List.mem_cons_self
    have hl := zR r List.mem_cons_self
    obtain ⟨rn, vl, rv⟩ := r
    have en : rn = "zz" := en
    have ev : rv = [] := ev
    subst en
    subst ev
    have hl : H1 vl = some (.lst []) := hl
    have hq : H1 q = some (.dK [(Sum.inr "zz", .ref vl)]) := hq
    have t1 := e1.tabs j.tabs
    refine fun d2 hd2 => ⟨by show 0 ≤ sizeLine; exact Nat.zero_le _, fun el2 hel2 => ?_⟩
    have ed2 : d2 ≠ el2 := fun z => by rw [← z, upd_same] at hel2; cases hel2
    refine ⟨by rw [upd_ne ed2]; exact upd_same, [(Sum.inr "zz", .ref el2)], rfl, by show 1 ≤ 15; decide, ?_⟩
    have hel2' : H1 el2 = none := by rw [upd_ne (Ne.symm ed2)] at hel2; exact hel2
    have n2 := notPs t1 hd2
    have e4 : Ext Ps H1 (upd (upd (upd H1 d2 (.dK [])) el2 (.lst [])) d2 (.dK (mergeK [] [(Sum.inr "zz", .ref el2)]))) := (((Ext.refl.put hd2 n2).put hel2' (notPs t1 hel2')).put hd2 n2)
    have g1 : upd (upd (upd H1 d2 (.dK [])) el2 (.lst [])) d2 (.dK (mergeK [] [(Sum.inr "zz", .ref el2)])) d2 = some (.dK [(Sum.inr "zz", .ref el2)]) := upd_same
    have g2 : upd (upd (upd H1 d2 (.dK [])) el2 (.lst [])) d2 (.dK (mergeK [] [(Sum.inr "zz", .ref el2)])) el2 = some (.lst []) := by
      rw [upd_ne (Ne.symm ed2)]
      exact upd_same
    have g3 := e4.get t1 hq fun _ z => by cases z
    have g4 := e4.get t1 hl fun _ z => by cases z
    generalize upd (upd (upd H1 d2 (.dK [])) el2 (.lst [])) d2 (.dK (mergeK [] [(Sum.inr "zz", .ref el2)])) = H4 at g1 g2 g3 g4
    refine ⟨2, by decide, .inr ⟨q, d2, _, _, rfl, rfl, g3, g1, rfl, fun pr hpr => ?_⟩, hQ _⟩
    rw [List.mem_singleton.mp hpr]
    exact ⟨.ref el2, rfl, .inr (.inr (.inl ⟨vl, el2, _, _, rfl, rfl, .inl (.inl g4), .inl (.inl g2), .nil⟩))⟩
end
end A8
set_option Elab.async false
set_option linter.all false
set_option maxRecDepth 100000
set_option maxHeartbeats 0
namespace A8
open PySem PySem.Spec PyProof.Rows L2 AL
def topR (i : Nat) : Stmt := PySem.Challenge.pw_asklines_k47_trees_written.main.body.getD i (.Pass ⟨0, 0, 0, 0⟩)
def dd (i : Nat) (x : Str) : He.DefD := ⟨(x, none), x, x, defArgs (topR i), defBody (topR i), defScope (topR i), [], []⟩
def fnL : List He.DefD := [dd 7 "is_name", dd 8 "is_tree", dd 9 "_has_proper_list", dd 10 "_is_one_piece_without_cycles", dd 11 "is_node", dd 12 "check_tree", dd 13 "steps_to", dd 14 "edges_of", dd 16 "show_tree", dd 17 "read_tree", dd 18 "check_text", dd 19 "_tree_of_words", dd 21 "_law_source", dd 22 "_law_pick", dd 23 "_law_names", dd 24 "_law_tree", dd 25 "_law_tree_text", dd 26 "_law_right", dd 27 "law"]
def faL : List He.Fa := [.glo "is_name", .glo "is_tree", .glo "_has_proper_list", .glo "_is_one_piece_without_cycles", .glo "is_node", .glo "check_tree", .glo "steps_to", .glo "edges_of", .glo "show_tree", .glo "read_tree", .glo "check_text", .glo "_tree_of_words", .glo "_law_source", .glo "_law_pick", .glo "_law_names", .glo "_law_tree", .glo "_law_tree_text", .glo "_law_right", .glo "law", .free "all", .free "dict", .free "isinstance", .free "len", .free "list", .free "max", .free "min", .free "range", .free "repr", .free "set", .free "sorted", .free "str", .free "sum", .int "MOST_NODES" 40, .int "MOST_LETTERS" 8]
def tfL : List He.Defn := [("is_name", none), ("is_tree", none), ("_has_proper_list", none)]
abbrev RR : PySem.W.OpenRow := PySem.W.OpenLaw.row PySem.Challenge.rw_asklines_k47_trees_written
abbrev hk : PySem.W.Hook := hookG 4 faL fnL [] tfL
def obL (s : PySem.W.SharedT) : AlG := obsG 4 faL fnL [] tfL (HandSHeadRun.getT s)
theorem ob_eq (s : PySem.W.SharedT) : obL s = hk.obs s.abs := obsG_eq (HandSHeadRun.getT_eq s)
def looseL : List Str := [("AskError" : Str), ("NoTree" : Str), ("NoText" : Str), ("MOST_NODES" : Str), ("MOST_LETTERS" : Str), ("is_name" : Str), ("is_tree" : Str), ("_has_proper_list" : Str), ("_is_one_piece_without_cycles" : Str), ("is_node" : Str), ("check_tree" : Str), ("steps_to" : Str), ("edges_of" : Str), ("show_tree" : Str), ("read_tree" : Str), ("check_text" : Str), ("_tree_of_words" : Str), ("_law_source" : Str), ("_law_pick" : Str), ("_law_names" : Str), ("_law_tree" : Str), ("_law_tree_text" : Str), ("_law_right" : Str)]
theorem run (w : World) : HandSHeadRun.RunEq RR (PySem.W.view RR.prog [27]) hk obL 4000 looseL w := by
  intro os
  kernel_rfl
end A8
set_option Elab.async false
set_option linter.all false
set_option maxRecDepth 100000
set_option maxHeartbeats 4000000
namespace A8
open PySem PySem.Spec PyProof.Rows L2 AL
open GxR (TabB TabG Tabbed)
section
variable {P : Program} {w : World} {K : PySem.W.Frag} {h base : Heap} {mg : Str → Option Value}
def csL (K : PySem.W.Frag) : List (Addr × Addr) := tfL.map (He.cT K)
def psL (K : PySem.W.Frag) : List Addr := (csL K).map (·.2)
/-- a def by its name and promise -/
theorem cal_of {k : Nat} {sp : Sp} {i : Nat} {x : Str} {fd : FuncData} {ps : List Str} (F : FunD K x x (defArgs (topR i)) (defBody (topR i)) (defScope (topR i)) [] [] (He.fAd K (x, none)) fd) (ok : FnOk P w K mg base CX0 k (He.fAd K (x, none)) fd ps sp)
    (hm : mg x = some (.ref (He.fAd K (x, none)))) (hb : Binds K fd ps []) : Cal P w K mg base k x sp := ⟨_, fd, ps, ok, hm, F.kp, hb⟩
end
section
variable {P : Program} {w : World} {K : PySem.W.Frag} {h base : Heap} {mg : Str → Option Value}
theorem law_ok (X : K.In h) (G : h.Ns mainGlobals mg) (c : He.SaysD faL fnL K) {fd : FuncData} (F27 : FunD K "law" "law" (defArgs (topR 27)) (defBody (topR 27)) (defScope (topR 27)) [] [] (He.fAd K ("law", none)) fd) (TB : ∀ p ∈ csL K, TabB base mg p.1 p.2) :
    FnG P w K mg base CX0 11 (He.fAd K ("law", none)) fd ["script"] (spLaw K (psL K)) := by
  have g : ∀ (i : Nat) (x : Str), faL[i]? = some (.glo x) → mg x = some (.ref (He.fAd K (x, none))) := fun i x hx => He.glo_ok X G (c.fact i (f := .glo x) hx)
  have e : ∀ x : Str, He.Fa.free x ∈ faL → mg x = none := fun x hx => He.free_ok X G (c.facts hx)
  have g_all := e "all" (by simp [faL])
  have g_dict := e "dict" (by simp [faL])
  have g_isinstance := e "isinstance" (by simp [faL])
  have g_len := e "len" (by simp [faL])
  have g_list := e "list" (by simp [faL])
  have g_max := e "max" (by simp [faL])
  have g_min := e "min" (by simp [faL])
  have g_range := e "range" (by simp [faL])
  have g_repr := e "repr" (by simp [faL])
  have g_set := e "set" (by simp [faL])
  have g_sorted := e "sorted" (by simp [faL])
  have g_str := e "str" (by simp [faL])
  have g_sum := e "sum" (by simp [faL])
  obtain ⟨_, i_MOST_NODES⟩ := He.int_ok X G (x := "MOST_NODES") (i := 40) (c.facts (by simp [faL]))
  obtain ⟨_, i_MOST_LETTERS⟩ := He.int_ok X G (x := "MOST_LETTERS") (i := 8) (c.facts (by simp [faL]))
  obtain ⟨_, F7⟩ := c.def_ 0 (d := dd 7 "is_name") rfl
  obtain ⟨_, F8⟩ := c.def_ 1 (d := dd 8 "is_tree") rfl
  obtain ⟨_, F9⟩ := c.def_ 2 (d := dd 9 "_has_proper_list") rfl
  obtain ⟨_, F10⟩ := c.def_ 3 (d := dd 10 "_is_one_piece_without_cycles") rfl
  obtain ⟨_, F11⟩ := c.def_ 4 (d := dd 11 "is_node") rfl
  obtain ⟨_, F12⟩ := c.def_ 5 (d := dd 12 "check_tree") rfl
  obtain ⟨_, F13⟩ := c.def_ 6 (d := dd 13 "steps_to") rfl
  obtain ⟨_, F14⟩ := c.def_ 7 (d := dd 14 "edges_of") rfl
  obtain ⟨_, F16⟩ := c.def_ 8 (d := dd 16 "show_tree") rfl
  obtain ⟨_, F17⟩ := c.def_ 9 (d := dd 17 "read_tree") rfl
  obtain ⟨_, F18⟩ := c.def_ 10 (d := dd 18 "check_text") rfl
  obtain ⟨_, F19⟩ := c.def_ 11 (d := dd 19 "_tree_of_words") rfl
  obtain ⟨_, F21⟩ := c.def_ 12 (d := dd 21 "_law_source") rfl
  obtain ⟨_, F22⟩ := c.def_ 13 (d := dd 22 "_law_pick") rfl
  obtain ⟨_, F23⟩ := c.def_ 14 (d := dd 23 "_law_names") rfl
  obtain ⟨_, F24⟩ := c.def_ 15 (d := dd 24 "_law_tree") rfl
  obtain ⟨_, F25⟩ := c.def_ 16 (d := dd 25 "_law_tree_text") rfl
  obtain ⟨_, F26⟩ := c.def_ 17 (d := dd 26 "_law_right") rfl
  have m : ∀ p : He.Defn, p ∈ tfL → He.cT K p ∈ csL K := fun p hp => List.mem_map.mpr ⟨p, hp, rfl⟩
  have m2 : ∀ p : He.Defn, p ∈ tfL → (He.cT K p).2 ∈ psL K := fun p hp => List.mem_map.mpr ⟨_, m p hp, rfl⟩
  have cName := cal_of (i := 7) (x := "is_name") (mg := mg) (base := base) F7 (ok_isName F7 (code_at F7) (TB _ (m ("is_name", none) (by simp [tfL]))) (m2 ("is_name", none) (by simp [tfL])) g_isinstance g_all g_len g_str i_MOST_LETTERS) (g 0 "is_name" rfl) (F7.bindsN fun _ _ _ _ _ _ us hl => match us, hl with | [_], _ => rfl) (P := P) (w := w)
  have cNode := cal_of (i := 11) (x := "is_node") (mg := mg) (base := base) F11 (ok_isNode F11 g_isinstance g_str) (g 4 "is_node" rfl) (F11.bindsN fun _ _ _ _ _ _ us hl => match us, hl with | [_, _], _ => rfl) (P := P) (w := w)
  have cList := cal_of (i := 9) (x := "_has_proper_list") (mg := mg) (base := base) F9 (ok_hasList F9 (code_at F9) (TB _ (m ("_has_proper_list", none) (by simp [tfL]))) (m2 ("_has_proper_list", none) (by simp [tfL])) cNode g_isinstance g_all g_list g_sorted g_set) (g 2 "_has_proper_list" rfl) (F9.bindsN fun _ _ _ _ _ _ us hl => match us, hl with | [_, _], _ => rfl) (P := P) (w := w)
  have cSteps := cal_of (i := 13) (x := "steps_to") (mg := mg) (base := base) F13 (ok_steps F13) (g 6 "steps_to" rfl) (F13.bindsN fun _ _ _ _ _ _ us hl => match us, hl with | [_, _], _ => rfl) (P := P) (w := w)
  have cPiece := cal_of (i := 10) (x := "_is_one_piece_without_cycles") (mg := mg) (base := base) F10 (ok_piece F10 cSteps g_sum g_len g_min) (g 3 "_is_one_piece_without_cycles" rfl) (F10.bindsN fun _ _ _ _ _ _ us hl => match us, hl with | [_], _ => rfl) (P := P) (w := w)
  have cTree := cal_of (i := 8) (x := "is_tree") (mg := mg) (base := base) F8 (ok_isTree F8 (code_at F8) (TB _ (m ("is_tree", none) (by simp [tfL]))) (m2 ("is_tree", none) (by simp [tfL])) cName cList cPiece g_isinstance g_all g_len g_dict i_MOST_NODES) (g 1 "is_tree" rfl) (F8.bindsN fun _ _ _ _ _ _ us hl => match us, hl with | [_], _ => rfl) (P := P) (w := w)
  have cCheck := cal_of (i := 12) (x := "check_tree") (mg := mg) (base := base) F12 (ok_checkTree F12 cTree) (g 5 "check_tree" rfl) (F12.bindsN fun _ _ _ _ _ _ us hl => match us, hl with | [_], _ => rfl) (P := P) (w := w)
  have cEd := cal_of (i := 14) (x := "edges_of") (mg := mg) (base := base) F14 (ok_edges F14 cCheck g_sorted) (g 7 "edges_of" rfl) (F14.bindsN fun _ _ _ _ _ _ us hl => match us, hl with | [_], _ => rfl) (P := P) (w := w)
  have cCT := cal_of (i := 18) (x := "check_text") (mg := mg) (base := base) F18 (ok_checkText F18 g_isinstance g_str) (g 10 "check_text" rfl) (F18.bindsN fun _ _ _ _ _ _ us hl => match us, hl with | [_], _ => rfl) (P := P) (w := w)
  have cST := cal_of (i := 16) (x := "show_tree") (mg := mg) (base := base) F16 (ok_showTree F16 cEd g_list) (g 8 "show_tree" rfl) (F16.bindsN fun _ _ _ _ _ _ us hl => match us, hl with | [_], _ => rfl) (P := P) (w := w)
  have cTW := cal_of (i := 19) (x := "_tree_of_words") (mg := mg) (base := base) F19 (ok_ofWords (Ps := psL K) F19 g_sorted) (g 11 "_tree_of_words" rfl) (F19.bindsN fun _ _ _ _ _ _ us hl => match us, hl with | [_], _ => rfl) (P := P) (w := w)
  have cRT := cal_of (i := 17) (x := "read_tree") (mg := mg) (base := base) F17 (ok_readTree F17 cCT cTW cTree cST) (g 9 "read_tree" rfl) (F17.bindsN fun _ _ _ _ _ _ us hl => match us, hl with | [_], _ => rfl) (P := P) (w := w)
  have cSrc := cal_of (i := 21) (x := "_law_source") (mg := mg) (base := base) F21 (ok_src F21 g_len g_max) (g 12 "_law_source" rfl) (F21.bindsN fun _ _ _ _ _ _ us hl => match us, hl with | [_, _], _ => rfl) (P := P) (w := w)
  have cPick := cal_of (i := 22) (x := "_law_pick") (mg := mg) (base := base) F22 (ok_pick F22) (g 13 "_law_pick" rfl) (F22.bindsN fun _ _ _ _ _ _ us hl => match us, hl with | [_, _], _ => rfl) (P := P) (w := w)
  have cNames := cal_of (i := 23) (x := "_law_names") (mg := mg) (base := base) F23 (ok_names F23 cPick g_len g_range) (g 14 "_law_names" rfl) (F23.bindsN fun _ _ _ _ _ _ us hl => match us, hl with | [_, _], _ => rfl) (P := P) (w := w)
  have cDraw := cal_of (i := 24) (x := "_law_tree") (mg := mg) (base := base) F24 (ok_tree F24 cPick cNames g_range g_len g_max g_sorted g_dict) (g 15 "_law_tree" rfl) (F24.bindsN fun _ _ _ _ _ _ us hl => match us, hl with | [_, _], _ => rfl) (P := P) (w := w)
  have cTT := cal_of (i := 25) (x := "_law_tree_text") (mg := mg) (base := base) F25 (ok_treeText F25 g_sorted) (g 16 "_law_tree_text" rfl) (F25.bindsN fun _ _ _ _ _ _ us hl => match us, hl with | [_], _ => rfl) (P := P) (w := w)
  have fR := ok_right F26 cTT cST cRT g_dict g_sorted g_range g_repr
  have mR := (g 17 "_law_right" rfl)
  have kR := F26.kp
  exact ok_law F27 cSrc cPick cDraw cRT fR mR kR (F26.bindsN fun _ _ _ _ _ _ us hl => match us, hl with | [_], _ => rfl) g_range g_len g_max g_min g_sorted
end
end A8
open PySem PySem.W PySem.Calls PyProof.Rows
theorem PySem.Challenge.cw_asklines_k47_trees_written_holds : PySem.Challenge.rw_asklines_k47_trees_written.Holds := by
  w_on; o_law
  refine HandSHeadRun.head_any (r := A8.RR) (q := view A8.RR.prog [27]) (H := A8.hk) (ob := A8.obL) (M := 4000) (loose := A8.looseL) (d := HandSHeadRun.topDef A8.RR.prog 27) (kwd := []) A8.ob_eq
    (by kernel_rfl) (fun s => by kernel_rfl) A8.run (by kernel_rfl) (by kernel_rfl) (by kernel_rfl) (by rfl) (by first | assumption | decide +kernel) (by decide +kernel) ⟨rfl, rfl, rfl, rfl, rfl, by decide +kernel⟩ ?hw ?hc
  case hw => w_witness2
  case hc =>
    refine AL.walk_ofG (l := PySem.Challenge.rw_asklines_k47_trees_written) (n := 63) (k := 11) (x := "script") rfl (by decide) (by kernel_rfl) ⟨by decide, by decide, by decide⟩ (fun w h Y => Y.sys) ?F
    intro w mg fa h Y G hmg0
    obtain ⟨K, KX, c⟩ := Y.x
    have hmg : mg ("law" : PySem.Str) = some (.ref fa) := by
      have e : (HandSHeadRun.topDef A8.RR.prog 27).name = ("law" : PySem.Str) := by kernel_rfl
      rw [← e]
      exact hmg0
    have efa := hmg.symm.trans (He.glo_ok KX G (c.t.d.fact 18 (f := .glo "law") rfl))
    cases efa
    obtain ⟨fd, F27⟩ := c.t.d.def_ 18 (d := A8.dd 27 "law") rfl
    have b := L2.FunD.bindsA (ps := ["script"]) F27 fun _ _ _ _ _ _ us hl => match us, hl with | [_], _ => rfl
    have each : ∀ p ∈ A8.csL K, ∃ q ∈ A8.tfL, He.cT K q = p := fun p hp => List.mem_map.mp hp
    refine ⟨K, fd, A8.csL K, A8.spLaw K (A8.psL K), KX, ?_⟩
    refine ⟨fun p hp => ?_, fun p hp => ?_, fun p hp => ?_, AL.saysG_nosys c, fun s u => b s [u] rfl, fun H a ns hl _ hT hY hS => ⟨a, ns, rfl, hl, hS, fun p hp => ?_, hY, fun _ => rfl⟩, fun base _ _ TB => A8.law_ok KX G c.t.d F27 TB⟩
    · obtain ⟨q, hq, e⟩ := each p hp
      exact e ▸ c.empty q hq
    · obtain ⟨q, hq, e⟩ := each p hp
      exact e ▸ c.out q hq
    · obtain ⟨q, hq, e⟩ := each p hp
      exact e ▸ PySem.W.codeHd_of_K KX (c.hd q hq)
    · obtain ⟨q, hq, e⟩ := List.mem_map.mp hp
      exact ⟨#[], e ▸ hT q hq, trivial⟩
