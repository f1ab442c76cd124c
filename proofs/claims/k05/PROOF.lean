import PyProof.Rows.All
import Wide.All
import OpenK.AllK
import Wide.FinOn
import HandS.ForMost
import HandS.AnyAll
import HandS.GenOver
import HandS.GenList
import HandS.Set
import HandS.SetFor
import HandS.Strs
import HandS.SetTxt0
import HandS.More
import HandS.Sort
import PyProof.ReprRoads
import PyProof.ReprLen
import HandS.HeadHook4
import HandS.HeadWalk
import HandS.Head2
import HandS.HeadEnd
import HandS.SortRule
import HandS.Iter
import KE.KDictZip
import PyProof.ListNew
import HandS.ExcValue
import HandS.DictComp
import HandS.IsInst
import HandS.WordsDict
import HandS.Wide
import HandS.RaiseOp
import PySem.Challenge.RW_asklines_k05_whole_paths_and_sides
import HandS.Walk
import HandS.Style
import HandS.Deep
import HandS.TryOnly
import Lean
import KE.KStateDown
import KE.KNestM
set_option Elab.async false
set_option linter.all false
set_option maxRecDepth 100000
set_option maxHeartbeats 4000000
namespace AL
open PySem PySem.Spec PyProof.Rows L2
open GxR (TabB TabG Tabbed inv_tab sh_eta)

theorem ge2_out (elt t0 i0 t1 i1 : Expr) (scope : Scope) (pos : Pos) (it acc : Value) (env : Env) :
    compTurn (.GeneratorExp elt [⟨t0, i0, [], 0⟩, ⟨t1, i1, [], 0⟩] scope pos) 0 it acc env = (do
      standAt i0.pos
      match ← pyNext it with
      | none => pure (.done .next)
      | some v =>
        letOwnedTupleGo t0 it v
        assign t0 env v
        let x ← eval i1 env
        standAt i1.pos
        let x ← foldedSetIterable i1 env x
        let _ ← runOwn (.compStart (.GeneratorExp elt [⟨t0, i0, [], 0⟩, ⟨t1, i1, [], 0⟩] scope pos) 1 (← holding [x] (pyIter x)) acc env) env
        again (.compLoop (.GeneratorExp elt [⟨t0, i0, [], 0⟩, ⟨t1, i1, [], 0⟩] scope pos) 0 it acc env)) := by rfl
theorem ge2_in (elt t0 i0 t1 i1 : Expr) (scope : Scope) (pos : Pos) (it acc : Value) (env : Env) :
    compTurn (.GeneratorExp elt [⟨t0, i0, [], 0⟩, ⟨t1, i1, [], 0⟩] scope pos) 1 it acc env = (do
      standAt i1.pos
      match ← pyNext it with
      | none => pure (.done .next)
      | some v =>
        letOwnedTupleGo t1 it v
        assign t1 env v
        (do let v ← eval elt env; standAt elt.pos; let _ ← yieldOut env v)
        again (.compLoop (.GeneratorExp elt [⟨t0, i0, [], 0⟩, ⟨t1, i1, [], 0⟩] scope pos) 1 it acc env)) := by rfl
theorem ge1 (elt t0 i0 : Expr) (scope : Scope) (pos : Pos) (it acc : Value) (env : Env) :
    compTurn (.GeneratorExp elt [⟨t0, i0, [], 0⟩] scope pos) 0 it acc env = (do
      standAt i0.pos
      match ← pyNext it with
      | none => pure (.done .next)
      | some v =>
        letOwnedTupleGo t0 it v
        assign t0 env v
        (do let v ← eval elt env; standAt elt.pos; let _ ← yieldOut env v)
        again (.compLoop (.GeneratorExp elt [⟨t0, i0, [], 0⟩] scope pos) 0 it acc env)) := by rfl

/-- the generator sleeps: its consumer touches nothing -/
structure Quietly (s s' : Shared) : Prop where
  heap : s'.heap = s.heap
  os : s'.os = s.os
  bare : AllBare s'.gens
theorem inv_quietly {X : Cx} {pins : List (Addr × Obj)} {σ : L2.St} {H : Hp} {s s' : Shared} (I : Inv X pins σ H s) (q : Quietly s s') : Inv X pins σ H s' := by
  obtain ⟨hh, g, d, t, o⟩ := s'
  obtain ⟨e1, e2, e3⟩ := q
  have e1 : hh = s.heap := e1
  subst e1
  exact ⟨I.ok, (show o = _ from e2).trans I.os, e3, I.base, I.loc, I.cell, I.free, I.freeC, I.pin, I.hok, I.len⟩
theorem quietly_trans {s s' s'' : Shared} (a : Quietly s s') (b : Quietly s' s'') : Quietly s s'' := ⟨b.heap.trans a.heap, b.os.trans a.os, b.bare⟩
theorem quietly_setGen {s : Shared} {g : Nat} {x : GenState} (h : AllBare s.gens) (hx : x.bare = true) : Quietly s (s.setGen g x) := ⟨rfl, rfl, allBare_setGen h hx⟩
theorem setGen_at {s : Shared} {g : Nat} {x : GenState} (h : g < s.gens.size) : (s.setGen g x).gens[g]? = some x := by
  show (s.gens.setIfInBounds g x)[g]? = some x
  rw [Array.getElem?_setIfInBounds_self_of_lt h]

/-- names of a generator expression -/
structure GOk (N : List Str) (sc scope : Scope) (own : List (Str × Nat)) : Prop where
  blk : BlkOk N sc scope own
  co : scope.isCoroutine = false
  cell : ∀ y ∈ scope.names, y.2 ≠ .cell
  dot : scope.names.lookup (".0" : Str) = some NameKind.local
theorem gOk_by {N : List Str} {sc scope : Scope} {own : List (Str × Nat)} (h : blkC N sc scope own = true) (h2 : scope.isCoroutine = false) (h3 : (scope.names.all fun y => match y.2 with | .cell => false | _ => true) = true)
    (h4 : scope.names.lookup (".0" : Str) = some NameKind.local) : GOk N sc scope own :=
  ⟨blkOk_by h, h2, fun y hy e => by
    have q := List.all_eq_true.mp h3 y hy
    rw [e] at q
    exact Bool.noConfusion q, h4⟩

/-- the context of a generator expression's frame: made at s, its iterator's objects fp, its generator pn -/
abbrev gcx (X : Cx) (s : Shared) (H : Hp) (cenv : Env) (fp : List Addr) (A : Around) (pn : List (Addr × Obj)) : Cx :=
  { X with s_0 := s, H_0 := H, env := cenv, outer := X.stack, stack := cenv :: X.stack, ex := fp, fn := fun _ => false, pn := pn, A := A, xe := fun _ _ => False }
section
variable {X : Cx} {pins : List (Addr × Obj)} {σ : L2.St} {H : Hp} {s : Shared}

theorem gen_start {scope : Scope} {own : List (Str × Nat)} {fp : List Addr} {code : Value} {A : Around} {s2 : Shared} {m : Str → Option Value} {pn : List (Addr × Obj)} (I : Inv X pins σ H s) (ok : GOk X.N X.env.scope scope own) (hN : X.N.Nodup)
    (hfp : ∀ b ∈ fp, FpOk X pins H b ∧ b < s.heap.objs.size) (hA : A.handled = none)
    (hAf : A.frames = some (genEnv scope (cloFrom X.env.cells scope.names []) s.heap.objs.size code builtinsNs X.env :: X.stack))
    (kp : ∀ b o, s.heap.get? b = some o → s2.heap.get? b = some o) (hn : s2.heap.Ns s.heap.objs.size m) (hos : s2.os = s.os) (hb : AllBare s2.gens)
    (hpn : ∀ p ∈ pn, s2.heap.get? p.1 = some p.2 ∧ s.heap.objs.size < p.1 ∧ ∀ v, p.2.data ≠ .cell v) :
    Inv (gcx X s H (genEnv scope (cloFrom X.env.cells scope.names []) s.heap.objs.size code builtinsNs X.env) fp A pn) [] (wipe σ (own.map (·.2))) H s2 := by
  have hfree : ∀ y ∈ scope.names, y.2 = .free → ∃ c, X.env.cells.lookup y.1 = some c := fun y hy e => by
    rcases ok.blk.free y hy e with k | k
    · exact I.ok.has _ (.inl k)
    · exact I.ok.has _ (.inr k)
  generalize hcenv : genEnv scope (cloFrom X.env.cells scope.names []) s.heap.objs.size code builtinsNs X.env = cenv at hAf ⊢
  have hL : cenv.locals = s.heap.objs.size := by rw [← hcenv]; rfl
  have hcl : cenv.cells = cloFrom X.env.cells scope.names [] := by rw [← hcenv]; rfl
  have hsc : cenv.scope = scope := by rw [← hcenv]; rfl
  have hfr : cenv.frame = some s.heap.objs.size := by rw [← hcenv]; rfl
  have hgl : cenv.globals = X.env.globals := by rw [← hcenv]; rfl
  have hbl : cenv.builtins = builtinsNs := by rw [← hcenv]; rfl
  have cm : ∀ {y c}, (y, c) ∈ cloFrom X.env.cells scope.names [] → X.env.cells.lookup y = some c ∧ c < s.heap.objs.size := fun {y c} hm => by
    rcases cloFrom_mem hm with hm | ⟨h1, rfl⟩
    · cases hm
    · obtain ⟨c, hc⟩ := hfree _ h1 rfl
      rw [hc]
      obtain ⟨w, z⟩ := I.cell _ _ hc
      exact ⟨rfl, z.lt⟩
  have mem : ∀ {y c}, cenv.cells.lookup y = some c → X.env.cells.lookup y = some c ∧ c < s.heap.objs.size := fun {y c} e => by
    rw [hcl] at e
    exact cm (PySem.mem_of_lookup e)
  have look : ∀ {y}, scope.names.lookup y = some .free → ∃ c, cenv.cells.lookup y = some c ∧ X.env.cells.lookup y = some c := fun {y} hl => by
    have hy : (y, NameKind.free) ∈ scope.names := PySem.mem_of_lookup hl
    obtain ⟨c', e'⟩ := mem_lookup (cloFrom_has (cells := X.env.cells) (acc := []) hy)
    rw [← hcl] at e'
    exact ⟨c', e', (mem e').1⟩
  have okB : (gcx X s H cenv fp A pn).Ok := by
    refine ⟨I.ok.mod, by show cenv.scope.kind = _; rw [hsc]; exact ok.blk.kind, by show cenv.globals = _; rw [hgl]; exact I.ok.glob, hbl, by show s.heap.objs.size ≤ cenv.locals; rw [hL]; exact Nat.le_refl _,
      fun y z c e1 e2 => I.ok.inj y z c (mem e1).1 (mem e2).1, fun y hy => ?_, fun y c z e => Bool.noConfusion z, fun _ => hA, hAf, .inr ⟨rfl, by rw [hfr, hL]⟩, fun b hb => ⟨?_, fun y c e z => ?_⟩, I.bs, Nat.le_trans I.ok.bsz I.sz, fun b o e hb => ?_, fun b hb z => ?_, I.stack, I.stkFree⟩
    · show ∃ c, cenv.cells.lookup y = some c
      have key : ∀ k, cenv.kindOf y = some k → (k = .cell ∨ k = .free) → ∃ c, cenv.cells.lookup y = some c := fun k hk hk' => by
        unfold Env.kindOf at hk
        rw [hsc] at hk
        rcases hk' with rfl | rfl
        · exact absurd rfl (ok.cell _ (PySem.mem_of_lookup hk))
        · obtain ⟨c, h1, _⟩ := look hk
          exact ⟨c, h1⟩
      rcases hy with hy | hy
      · exact key _ hy (.inl rfl)
      · exact key _ hy (.inr rfl)
    · show b ≠ cenv.locals
      rw [hL]; exact Nat.ne_of_lt (hfp b hb).2
    · exact (hfp b hb).1.2.2.2.2.1 y c (mem (show cenv.cells.lookup y = some c from e)).1 z
    · rcases (hfp b hb).1.2.2.2.1 with z | z
      · exact I.ok.noex b o e z
      · exact absurd (Nat.lt_of_lt_of_le (Heap.lt_size e) (Nat.le_trans I.ok.bsz z)) (Nat.lt_irrefl _)
    · rcases List.mem_cons.mp (I.stkSub b z) with z | z
      · exact (hfp b hb).1.2.1 z
      · exact (hfp b hb).1.2.2.1 z
  refine ⟨okB, hos, hb, Un.kept kp, ⟨m, ?_, fun i y av e1 e2 e3 => ?_⟩, fun y c e => ?_, ?_, fun y c e => ?_, fun p hp => ?_, I.hok.kept kp, by rw [wipe_length]; exact I.len⟩
  · show Heap.Ns _ cenv.locals _
    rw [hL]
    exact hn
  · obtain ⟨e2, hne⟩ := wipe_some e2
    have hfrr : scope.names.lookup y = some .free := by
      have e3 : Vis cenv.scope y := e3
      rw [hsc] at e3
      have no : ∀ k', scope.names.lookup y = some k' → ¬ (k' = .local ∨ k' = .cell) := fun k' e hh => by
        rcases ok.blk.own _ (PySem.mem_of_lookup e) hh with e' | e'
        · obtain ⟨p, hp, hpy⟩ := List.mem_map.mp e'
          have e3 := ok.blk.ix p hp
          have : p.1 = y := hpy
          rw [this] at e3
          exact hne (List.mem_map.mpr ⟨p, hp, nodup_ix hN e3 e1⟩)
        · exact e' (List.mem_of_getElem? e1)
      rcases e3 with e3 | e3 | e3
      · exact absurd (.inl rfl) (no _ e3)
      · exact absurd (.inr rfl) (no _ e3)
      · exact e3
    obtain ⟨m', hn', hl⟩ := I.loc
    have hvis : Vis X.env.scope y := (ok.blk.free _ (PySem.mem_of_lookup hfrr) rfl).elim (fun k => .inr (.inl k)) (fun k => .inr (.inr k))
    obtain ⟨w, r, q⟩ := hl i y av e1 e2 hvis
    refine ⟨w, r, .inr ⟨.inr (by show cenv.scope.names.lookup y = _; rw [hsc]; exact hfrr), ?_⟩⟩
    obtain ⟨c, h1, h2⟩ := look hfrr
    rcases q with ⟨k, _⟩ | ⟨_, c', e', z⟩
    · have k : X.env.scope.names.lookup y = some .local := k
      rcases ok.blk.free _ (PySem.mem_of_lookup hfrr) rfl with k' | k' <;> rw [show X.env.scope.names.lookup y = _ from k'] at k <;> cases k
    · rw [h2] at e'; cases e'
      exact ⟨c, h1, z.keeps kp⟩
  · have e : cenv.cells.lookup y = some c := e
    obtain ⟨w, z⟩ := I.cell y c (mem e).1
    exact ⟨w, z.keeps kp⟩
  · show H cenv.locals = none
    rw [hL]; exact I.hok.fresh (Nat.le_refl _)
  · have e : cenv.cells.lookup y = some c := e
    exact I.freeC y c (mem e).1
  · have hp : p ∈ pn := by
      rcases List.mem_append.mp hp with z | z
      · exact z
      · cases z
    obtain ⟨h1, h2, h3⟩ := hpn p hp
    refine ⟨h1, I.hok.fresh (Nat.le_of_lt h2), ?_, fun z => ?_, h3⟩
    · show p.1 ≠ cenv.locals
      rw [hL]; exact Nat.ne_of_gt h2
    · have z : p.1 ∈ frs X.stack := z
      rcases List.mem_cons.mp (I.stkSub _ z) with e | e
      · rw [e] at h2
        exact absurd (Nat.lt_trans I.lt h2) (Nat.lt_irrefl _)
      · exact I.nofs (Nat.le_of_lt h2) e
end
end AL
set_option Elab.async false
set_option linter.all false
set_option maxRecDepth 100000
set_option maxHeartbeats 4000000
namespace AL
open PySem PySem.Spec PyProof.Rows L2
open GxR (TabB TabG Tabbed inv_tab sh_eta)

/-- at a yield: a truth value; the one that ends the walk (d), or one that lets it go on -/
def GYA (a : Addr) (g : Nat) (d : Bool) (FinF : Shared → Prop) : Protocol := fun n s₀ v s kap =>
  ∃ b, v = .bool b ∧ s.heap.IsGen a g ∧ s.heap.NoLimit ∧ AllBare s.gens ∧ (b = d → FinF s) ∧ (b ≠ d → ∀ s', Quietly s s' → kap (.send .none) s')
abbrev GRA (FinT : Shared → Prop) : GenEnd := fun n s₀ r s₁ => r = .ok .next ∧ FinT s₁
/-- the generator at a, asleep; at most n items are to come -/
def GAt (P : Program) (w : World) (A : Around) (a : Addr) (g : Nat) (d : Bool) (FinT FinF : Shared → Prop) (n : Nat) (s : Shared) : Prop :=
  s.heap.IsGen a g ∧ s.heap.NoLimit ∧ AllBare s.gens ∧ ∃ gs, s.gens[g]? = some gs ∧ ∀ s', Quietly s s' → gs.Goes (model P w) A (GRA FinT) (GYA a g d FinF) n (.send .none) s'

section
variable {P : Program} {w : World} {A : Around} {a : Addr} {g : Nat} {FinT FinF : Shared → Prop}
theorem next_gen {d : Bool} {n : Nat} {s : Shared} {E : Value → Shared → Prop} {Q : Option Value → Shared → Prop} (hh : A.handled = none) (hroom : A.depth < recursionLimit) (h : GAt P w A.in1 a g d FinT FinF n s)
    (hT : ∀ s₁ s', FinT s₁ → AllBare s'.gens → s'.os = s₁.os → (∀ b o, s₁.heap.get? b = some o → s'.heap.get? b = some o) → Q none s')
    (hF : ∀ s₁ s', FinF s₁ → Quietly s₁ s' → Q (some (.bool d)) s')
    (hG : ∀ m s', m < n → GAt P w A.in1 a g d FinT FinF m s' → Q (some (.bool (!d))) s')
    (hTb : ∀ s, FinT s → AllBare s.gens) :
    wpAny (model P w) A (pyNext (.ref a)) Q E s := by
  obtain ⟨hg, hl, hb, gs, hgs, hgo⟩ := h
  have hlt : g < s.gens.size := (Array.getElem?_eq_some_iff.mp hgs).1
  refine GenW.wpAny_gsz (n := g + 1) hlt ?_
  refine wpAny_pyNext_genexpQ (P := fun _ _ s => FinT s) hh hl hroom hg hgs (hgo _ (quietly_setGen hb rfl)) (fun v s₁ gs' hgb hv => ?_) (fun s₁ hp h' hk => ?_)
  · intro hsz
    rw [GenW.setGen_size] at hsz
    obtain ⟨b, rfl, hg1, hl1, hb1, hd, hn⟩ := hv
    by_cases e : b = d
    · subst e
      exact hF s₁ _ (hd rfl) (quietly_setGen hb1 hgb)
    · have e2 : b = !d := by
        cases b <;> cases d <;> first | rfl | exact absurd rfl e
      have hn := hn e
      cases n with
      | zero => exact (hn s₁ ⟨rfl, rfl, hb1⟩).elim
      | succ m =>
        rw [e2]
        exact hG m _ (Nat.lt_succ_self m) ⟨hg1, hl1, allBare_setGen hb1 hgb, gs', setGen_at hsz, fun s' q => hn s' (quietly_trans (quietly_setGen hb1 hgb) q)⟩
  · intro _
    exact hT s₁ _ hp (allBare_setGen (s := s₁) (hTb s₁ hp) rfl) rfl hk

theorem all_gen_loop {R : Result → Shared → Prop} (hh : A.handled = none) (hroom : A.depth < recursionLimit)
    (hT : ∀ s₁ s', FinT s₁ → AllBare s'.gens → s'.os = s₁.os → (∀ b o, s₁.heap.get? b = some o → s'.heap.get? b = some o) → R (.ok (.ret (.bool true))) s')
    (hF : ∀ s₁ s', FinF s₁ → Quietly s₁ s' → R (.ok (.ret (.bool false))) s') (hTb : ∀ s, FinT s → AllBare s.gens) : ∀ (n : Nat) (s : Shared), GAt P w A.in1.in1 a g false FinT FinF n s →
      codeAny (model P w) A (.builtin "all.loop" ⟨[.ref a], []⟩) R s := by
  intro n
  induction n using Nat.strongRecOn with
  | _ n ih =>
    intro s h
    refine codeAny_builtin F.entry_all_loop ?_
    rw [Around.under_plainId F.plain_all_loop _]
    show wpAny _ A.in1 (pyNext (.ref a) >>= _) _ _ s
    refine wpAny_bind (next_gen (A := A.in1) hh hroom h (fun s₁ s' h1 h2 h3 h4 => ?_) (fun s₁ s' h1 h2 => ?_) (fun m s' hm h1 => ?_) hTb)
    · exact wpAny_bind (wpAny_rule (wpAny_pure (hT s₁ s' h1 h2 h3 h4)))
    · refine wpAny_bind (wpAny_holding (wpAny_truthy_bool ?_))
      refine wpAny_bind (wpAny_letGo ?_)
      simp only [Bool.false_eq_true, if_false]
      exact wpAny_bind (wpAny_rule (wpAny_pure (hF s₁ s' h1 h2)))
    · refine wpAny_bind (wpAny_holding (wpAny_truthy_bool ?_))
      refine wpAny_bind (wpAny_letGo ?_)
      simp only [Bool.not_false, if_true]
      exact wpAny_pure ⟨plainId_quiet F.plain_all_loop _, ih m hm s' h1⟩
theorem any_gen_loop {R : Result → Shared → Prop} (hh : A.handled = none) (hroom : A.depth < recursionLimit)
    (hT : ∀ s₁ s', FinT s₁ → AllBare s'.gens → s'.os = s₁.os → (∀ b o, s₁.heap.get? b = some o → s'.heap.get? b = some o) → R (.ok (.ret (.bool false))) s')
    (hF : ∀ s₁ s', FinF s₁ → Quietly s₁ s' → R (.ok (.ret (.bool true))) s') (hTb : ∀ s, FinT s → AllBare s.gens) : ∀ (n : Nat) (s : Shared), GAt P w A.in1.in1 a g true FinT FinF n s →
      codeAny (model P w) A (.builtin "any.loop" ⟨[.ref a], []⟩) R s := by
  intro n
  induction n using Nat.strongRecOn with
  | _ n ih =>
    intro s h
    refine codeAny_builtin F.entry_any_loop ?_
    rw [Around.under_plainId F.plain_any_loop _]
    show wpAny _ A.in1 (pyNext (.ref a) >>= _) _ _ s
    refine wpAny_bind (next_gen (A := A.in1) hh hroom h (fun s₁ s' h1 h2 h3 h4 => ?_) (fun s₁ s' h1 h2 => ?_) (fun m s' hm h1 => ?_) hTb)
    · exact wpAny_bind (wpAny_rule (wpAny_pure (hT s₁ s' h1 h2 h3 h4)))
    · refine wpAny_bind (wpAny_holding (wpAny_truthy_bool ?_))
      refine wpAny_bind (wpAny_letGo ?_)
      simp only [if_true]
      exact wpAny_bind (wpAny_rule (wpAny_pure (hF s₁ s' h1 h2)))
    · refine wpAny_bind (wpAny_holding (wpAny_truthy_bool ?_))
      refine wpAny_bind (wpAny_letGo ?_)
      simp only [Bool.not_true, Bool.false_eq_true, if_false]
      exact wpAny_pure ⟨plainId_quiet F.plain_any_loop _, ih m hm s' h1⟩
theorem call_all_gen {n : Nat} {s : Shared} {Q E : Value → Shared → Prop} (hh : A.handled = none) (hroom : A.depth < recursionLimit) (h : GAt P w A.in1.in1 a g false FinT FinF n s)
    (hT : ∀ s₁ s', FinT s₁ → AllBare s'.gens → s'.os = s₁.os → (∀ b o, s₁.heap.get? b = some o → s'.heap.get? b = some o) → Q (.bool true) s')
    (hF : ∀ s₁ s', FinF s₁ → Quietly s₁ s' → Q (.bool false) s') (hTb : ∀ s, FinT s → AllBare s.gens) :
    wpAny (model P w) A (call (.builtin "all") [.ref a]) Q E s := by
  refine call_function_tree F.kind_all F.plain_all F.entry_all (F.args_all1 _) ?_
  unfold Builtin.«all»
  refine wpAny_bind (m := oneArg "all" _) (wpAny_pure ?_)
  refine wpAny_bind (wpAny_pyIter_gen h.1 ?_)
  exact wpAny_pure ⟨plainId_quiet F.plain_all_loop _, all_gen_loop hh hroom hT hF hTb n s h⟩
theorem call_any_gen {n : Nat} {s : Shared} {Q E : Value → Shared → Prop} (hh : A.handled = none) (hroom : A.depth < recursionLimit) (h : GAt P w A.in1.in1 a g true FinT FinF n s)
    (hT : ∀ s₁ s', FinT s₁ → AllBare s'.gens → s'.os = s₁.os → (∀ b o, s₁.heap.get? b = some o → s'.heap.get? b = some o) → Q (.bool false) s')
    (hF : ∀ s₁ s', FinF s₁ → Quietly s₁ s' → Q (.bool true) s') (hTb : ∀ s, FinT s → AllBare s.gens) :
    wpAny (model P w) A (call (.builtin "any") [.ref a]) Q E s := by
  refine call_function_tree F.kind_any F.plain_any F.entry_any (F.args_any1 _) ?_
  unfold Builtin.«any»
  refine wpAny_bind (m := oneArg "any" _) (wpAny_pure ?_)
  refine wpAny_bind (wpAny_pyIter_gen h.1 ?_)
  exact wpAny_pure ⟨plainId_quiet F.plain_any_loop _, any_gen_loop hh hroom hT hF hTb n s h⟩
end
end AL
set_option Elab.async false
set_option linter.all false
set_option maxRecDepth 100000
set_option maxHeartbeats 4000000
namespace AL
open PySem PySem.Spec PyProof.Rows L2
open GxR (TabB TabG Tabbed inv_tab sh_eta)

/-- one clause: what is walked in the generator's frame -/
structure W1 (K : PySem.W.Frag) (J : It) (g : TG) (te : TE) (σ0 : L2.St) (vs : List Nat) (d : Bool) (QT QF : Hp → Prop) (W : Nat → Nat → Hp → Prop) : Prop where
  turn : ∀ i m H, W i m H → (J.stop i H ∧ QT H) ∨ (J.go i H ∧ ∀ x H', J.yld i H x H' → g x σ0 H' fun σ2 H2 => wipe σ2 vs = σ0 ∧ te σ2 H2 fun y H3 => ∃ b, y = .bl b ∧ (b = d → QF H3) ∧ (b ≠ d → ∃ m', m' < m ∧ W (i + 1) m' H3))

section
variable {X : Cx} {a : Addr} {g0 : Nat} {d : Bool} {FinT FinF : Shared → Prop} {QT QF : Hp → Prop} {s3 : Shared} {H3 : Hp} {ce : Env} {fp : List Addr} {A : Around} {go : Obj}

theorem seg_one {elt tg iter : Expr} {scope : Scope} {pos : Pos} {it : Addr} {tn : Nat → Heap → Prop} {J : It} {g : TG} {te : TE} {σ0 : L2.St} {vs : List Nat} {W : Nat → Nat → Hp → Prop}
    (hgo : ∀ h : Heap, h.get? a = some go → h.IsGen a g0)
    (hXA : ∀ c : Code, c = .compLoop (.GeneratorExp elt [⟨tg, iter, [], 0⟩] scope pos) 0 (.ref it) .none ce → A.over c [] = X.A) (hco : ce.scope.isCoroutine = false)
    (henv : X.env = ce) (hcalm : X.calm = true) (hxe : ∀ e s, ¬ X.xe e s) (hpn : (a, go) ∈ X.pn)
    (hpn2 : ∀ p ∈ X.pn, ∀ b ∈ fp, p.1 ≠ b) (hex : ∀ b ∈ fp, b ∈ X.ex)
    (T : Turn X.prog X.w X.K tg J fp it tn) (hw0 : ∀ vsσ : L2.St, wipe vsσ vs = σ0 → vsσ.length = σ0.length ∧ ∀ (i : Nat) v, σ0[i]? = some (some v) → vsσ[i]? = some (some v))
    (hg : PG X tg g) (he : PE X elt te) (w1 : W1 X.K J g te σ0 vs d QT QF W)
    (hT : ∀ H s, Inv X [] σ0 H s → QT H → FinT s) (hF : ∀ H s, Inv X [] σ0 H s → QF H → FinF s) :
    ∀ (m n i : Nat) (s₀ s : Shared) (H : Hp), m < n → W i m H → Inv X [] σ0 H s → tn i s.heap → (∀ b ∈ fp, H b = none) →
      Seg (model X.prog X.w) A (GRA FinT) (GYA a g0 d FinF) n s₀ (.compLoop (.GeneratorExp elt [⟨tg, iter, [], 0⟩] scope pos) 0 (.ref it) .none ce)
        ((model X.prog X.w).den (.compLoop (.GeneratorExp elt [⟨tg, iter, [], 0⟩] scope pos) 0 (.ref it) .none ce)) [] s := by
  have stat : ∀ {σ' : L2.St} {H' : Hp} {s' : Shared}, Inv X [] σ' H' s' → (∀ b ∈ fp, H' b = none) → ∀ b ∈ fp, FpOk X [] H' b := fun {σ' H' s'} I' hn b hb =>
    ⟨hn b hb, (I'.ok.exf b (hex b hb)).1, I'.ok.exfs b (hex b hb), .inl (hex b hb), fun x c e => (I'.ok.exf b (hex b hb)).2 x c e, fun p hp => by
      rcases List.mem_append.mp hp with z | z
      · exact hpn2 p z b hb
      · cases z⟩
  intro m
  induction m using Nat.strongRecOn with
  | _ m ih =>
    intro n i s₀ s H hmn hW I st hfp
    have hA := hXA _ rfl
    show Seg _ A _ _ _ s₀ _ ((compTurn (.GeneratorExp elt [⟨tg, iter, [], 0⟩] scope pos) 0 (.ref it) .none ce).onRaise (leaving ce)) [] s
    rw [ge1, Sem.onRaise_eq_wrap]
    refine seg_bind_wrap (wpAny_standAt ?_)
    rcases w1.turn i m H hW with ⟨stop, qt⟩ | ⟨go', step⟩
    · refine seg_bind_wrap ?_
      rw [hA]
      refine thn (T.done X rfl rfl rfl hcalm i [] s σ0 H _ I (stat I hfp) st stop) fun r s1 ⟨hr, I1⟩ => ?_
      subst hr
      exact seg_end (.ok .next) ⟨rfl, hT H s1 I1 qt⟩
    · refine seg_bind_wrap ?_
      rw [hA]
      refine thn (T.item X rfl rfl rfl hcalm i [] s σ0 H _ I (stat I hfp) st go') fun r s1 ⟨u, hr, h1⟩ => ?_
      subst hr
      refine seg_bind_wrap ?_
      rw [hA]
      refine wpAny_mono h1 (fun _ s2 hh => ?_) fun _ _ z => z
      obtain ⟨x, H2, I2, r2, y2, st2, n2⟩ := hh
      have I2' := I2.pinned (stat I2 n2) (T.obj _ _ st2)
      refine seg_bind_wrap ?_
      rw [hA]
      have hgr := hg.run _ s2 σ0 H2 x u _ I2' r2 (step x H2 y2)
      rw [henv] at hgr
      refine wpAny_mono hgr (fun _ s4 ⟨σ4, H4, I4, hw4, q4⟩ => ?_) fun e s' z => (hxe e s' z).elim
      have hy : ∀ v, yieldOut ce v = yieldValue v := fun v => by simp only [yieldOut, hco, Bool.false_eq_true, if_false]
      simp only [hy]
      rw [Sem.bind_eq_wrap', Sem.bind_eq_wrap', Sem.wrap_wrap, Sem.wrap_wrap]
      refine seg_wrap ?_
      rw [hA]
      have her := he.run _ s4 σ4 H4 _ I4 q4
      rw [henv] at her
      refine wpAny_mono her (fun yv s5 ⟨y, H5, I5, r5, b, hyb, qd, qn⟩ => ?_) fun e s' z => (hxe e s' z).elim
      subst hyb
      have r5 : yv = .bool b := r5
      subst r5
      have pin' : ∀ q ∈ fp, ∀ o, s2.heap.get? q = some o → s5.heap.get? q = some o ∧ H5 q = none := fun q hb o e =>
        let z := I5.pin (q, o) (List.mem_append_right _ (List.mem_append_right _ (mem_pinsAt hb e)))
        ⟨z.1, z.2.1⟩
      obtain ⟨hl4, hv4⟩ := hw0 σ4 hw4
      have I6 : Inv X [] σ0 H5 s5 := (I5.unpinned (pins := [])).weak hl4.symm fun j v e => hv4 j v e
      have hgen : s5.heap.IsGen a g0 := hgo _ (I6.pin (a, go) (List.mem_append_left _ hpn)).1
      by_cases hbd : b = d
      · cases n with
        | zero => omega
        | succ n => exact seg_at (seg_yield rfl rfl rfl ⟨b, rfl, hgen, I6.nolimit, I6.bare, fun _ => hF H5 s5 I6 (qd hbd), fun z => absurd hbd z⟩)
      · obtain ⟨m', hm', w'⟩ := qn hbd
        cases n with
        | zero => omega
        | succ n =>
          refine seg_at (seg_yield rfl rfl rfl ⟨b, rfl, hgen, I6.nolimit, I6.bare, fun z => absurd z hbd, fun _ s' q => ?_⟩)
          refine seg_again rfl (ih m' hm' n (i + 1) s' s' H5 (by omega) w' (inv_quietly I6 q) ?_ fun q' hb => ?_)
          · rw [q.heap]
            exact T.keep _ _ _ st2 fun q' hb o e => (pin' q' hb o e).1
          · obtain ⟨o, e, _⟩ := T.obj _ _ st2 q' hb
            exact (pin' q' hb o e).2
end
end AL
set_option Elab.async false
set_option linter.all false
set_option maxRecDepth 100000
set_option maxHeartbeats 4000000
namespace AL
open PySem PySem.Spec PyProof.Rows L2
open GxR (TabB TabG Tabbed inv_tab sh_eta)

theorem inv_ext {X : Cx} {pins : List (Addr × Obj)} {σ : L2.St} {H : Hp} {s s' : Shared} (I : Inv X pins σ H s) (ho : s'.os = s.os) (hb : AllBare s'.gens) (k : ∀ b o, s.heap.get? b = some o → s'.heap.get? b = some o) : Inv X pins σ H s' :=
  I.call' (ch := []) ho (Un.kept k) (I.hok.kept k) hb fun b z => by simp at z

/-- the frame's code, over its consumer -/
abbrev gcode (elt : Expr) (cs : List Comprehension) (scope : Scope) (pos : Pos) (it : Addr) (ce : Env) : Code := .compLoop (.GeneratorExp elt cs scope pos) 0 (.ref it) .none ce
theorem gcode_frames {elt : Expr} {cs : List Comprehension} {scope : Scope} {pos : Pos} {it : Addr} {ce : Env} {A : Around} {st : List Env} (h : A.frames = some st) : (A.over (gcode elt cs scope pos it ce) []).frames = some (ce :: st) := by
  show pushEnvs [ce] (pushEnvs [] A.frames) = _
  rw [h]
  rfl
theorem gcode_room {elt : Expr} {cs : List Comprehension} {scope : Scope} {pos : Pos} {it : Addr} {ce : Env} {A : Around} {k : Nat} (r : Room (k + 1) A) : Room k (A.in1.in1.over (gcode elt cs scope pos it ce) []) :=
  ⟨r.hd, by have := r.dp; show A.depth + 0 + 1 + 3 * k + 5 < _; omega, by have := r.un; show A.units + 1 + 1 + 0 + 3 + 16 * k + 200 < _; omega⟩

/-- a start of a generator expression's code -/
theorem seg_start {P : Program} {w : World} {A : Around} {R : GenEnd} {Y : Protocol} {n : Nat} {s₀ s : Shared} {elt tg iter : Expr} {cs : List Comprehension} {scope : Scope} {pos : Pos} {it : Addr} {ce : Env} {K : PySem.W.Frag} {J : It} {fp : List Addr} {tn : Nat → Heap → Prop} (T : Turn P w K tg J fp it tn) (st : tn 0 s.heap)
    (h : Seg (model P w) A R Y n s₀ (.compLoop (.GeneratorExp elt (⟨tg, iter, [], 0⟩ :: cs) scope pos) 0 (.ref it) .none ce) ((model P w).den (.compLoop (.GeneratorExp elt (⟨tg, iter, [], 0⟩ :: cs) scope pos) 0 (.ref it) .none ce)) [] s) :
    Seg (model P w) A R Y n s₀ (.compStart (.GeneratorExp elt (⟨tg, iter, [], 0⟩ :: cs) scope pos) 0 (.ref it) .none ce) ((model P w).den (.compStart (.GeneratorExp elt (⟨tg, iter, [], 0⟩ :: cs) scope pos) 0 (.ref it) .none ce)) [] s := by
  show Seg _ A _ _ _ s₀ _ ((compStart (.GeneratorExp elt (⟨tg, iter, [], 0⟩ :: cs) scope pos) 0 (.ref it) .none ce).onRaise (leaving ce)) [] s
  unfold compStart
  rw [Sem.onRaise_eq_wrap]
  show Seg _ A _ _ _ s₀ _ ((ask >>= _).wrap _ _ _ _) [] s
  refine seg_bind_wrap (wpAny_askSetting ?_)
  split
  · exact seg_again rfl h
  · refine seg_bind_wrap (wpAny_rule ?_)
    show Seg _ A _ _ _ s₀ _ ((standAt iter.pos >>= _).wrap _ _ _ _) [] s
    exact seg_bind_wrap (wpAny_standAt (seg_bind_wrap (T.self _ 0 s _ _ st (seg_again rfl h))))

theorem eval_ge (elt target iter : Expr) (cs : List Comprehension) (scope : Scope) (pos : Pos) (env : Env) (hco : scope.isCoroutine = false) :
    eval (.GeneratorExp elt (⟨target, iter, [], 0⟩ :: cs) scope pos) env = (do
      let x ← eval iter env
      standAt iter.pos
      let x ← genFold iter env x
      let it ← holding [x] (pyIter x)
      enterFrame
      let cl ← closureFor scope env
      let code ← genexprCode env pos (env.qual ++ "<genexpr>") scope
      let bi ← builtinsFor env.globals env.builtins
      let cenv ← newFunctionEnv scope env.globals cl [(".0", it)] (env.qual ++ "<genexpr>.") none code none bi
      newGenerator (.compStart (.GeneratorExp elt (⟨target, iter, [], 0⟩ :: cs) scope pos) 0 it .none cenv) "<genexpr>" (env.qual ++ "<genexpr>")) := by
  rw [arm_eval_GeneratorExp]
  simp only [hco, Bool.false_eq_true, if_false]
  cases iter <;> rfl
section
variable {M : Model} {A : Around} {E : Value → Shared → Prop} {s : Shared}
theorem make_ge {env : Env} {elt target iter : Expr} {cs : List Comprehension} {scope : Scope} {cl : List (Str × Addr)} {pos : Pos} {Q : Value → Shared → Prop}
    (hco : scope.isCoroutine = false) (hclos : closureFor scope env = pure cl) (hcell : ∀ y ∈ scope.names, y.2 ≠ .cell) (h0 : scope.names.lookup (".0" : Str) = some NameKind.local) (hkind : scope.kind = .function)
    (hroom : A.depth < recursionLimit)
    (h : wpAny M A (eval iter env) (fun xv s₁ => wpAny M A (pyIter xv) (fun it s₂ => s₂.heap.NoLimit ∧
      wpAny M A (genexprCode env pos (env.qual ++ "<genexpr>") scope) (fun code s₃ => wpAny M A (builtinsFor env.globals env.builtins) (fun bi s₄ =>
        ∀ h', h'.Ns s₄.heap.objs.size (fun y => if y = ".0" then some it else none) → Heap.SameBut s₄.heap.objs.size (s₄.heap.push { cls := .type "frame", data := .dict #[] }) h' →
          Q (.ref h'.objs.size) { s₄ with
            gens := s₄.gens.push (.fresh (.compStart (.GeneratorExp elt (⟨target, iter, [], 0⟩ :: cs) scope pos) 0 it .none (genEnv scope cl s₄.heap.objs.size code bi env))),
            toks := s₄.toks + 1 + 1 + 1,
            heap := h'.push { cls := .type "generator", data := .fields #[.int s₄.gens.size 0, .str "<genexpr>" (s₄.toks + 1), .str (env.qual ++ "<genexpr>") (s₄.toks + 1 + 1)] } }) E s₃) E s₂) E s₁) E s)
    (hs : ∀ x, genFold iter env x = pure x) :
    wpAny M A (eval (.GeneratorExp elt (⟨target, iter, [], 0⟩ :: cs) scope pos) env) Q E s := by
  rw [eval_ge _ _ _ _ _ _ _ hco, hclos]
  refine wpAny_bind (wpAny_mono h (fun xv s₁ h₁ => ?_) fun _ _ e => e)
  refine wpAny_bind (wpAny_standAt ?_)
  refine wpAny_bind (wpAny_of_eq (hs xv) ?_)
  refine wpAny_bind (wpAny_holding (wpAny_mono h₁ (fun it s₂ h₂ => ?_) fun _ _ e => e))
  refine wpAny_bind (wpAny_enterFrame h₂.1 hroom ?_)
  refine wpAny_bind (wpAny_pure ?_)
  refine wpAny_bind (wpAny_mono h₂.2 (fun code s₃ h₃ => ?_) fun _ _ e => e)
  refine wpAny_bind (wpAny_mono h₃ (fun bi s₄ h₄ => ?_) fun _ _ e => e)
  have hbinds : ∀ y ∈ ([((".0" : Str), it)] : List (Str × Value)), scope.names.lookup y.1 = some NameKind.local := by
    intro y hy
    rcases List.mem_cons.mp hy with rfl | hy
    · exact h0
    · cases hy
  refine wpAny_bind (wpAny_newFunctionEnv hcell hbinds (fun h' hn' hs' => ?_) hkind)
  have e : (fun y : Str => ([((".0" : Str), it)] : List (Str × Value)).reverse.lookup y) = fun y : Str => if y = (".0" : Str) then some it else none := by
    funext y
    by_cases hy : y = ".0"
    · subst hy; simp
    · have : (y == (".0" : Str)) = false := by simpa using hy
      simp [List.lookup, this, hy]
  rw [e] at hn'
  simp only [newGenerator, newFields]
  refine wpAny_bind (wpAny_newGen (wpAny_bind (wpAny_mkText (wpAny_bind (wpAny_mkText (wpAny_newObj_type ?_ (by size_fits)))))))
  exact h₄ h' hn' hs'
end
section
variable {X : Cx}
/-- a generator expression made, to be walked by all or any (the consumer's part is a letter) -/
theorem gen_made {pins : List (Addr × Obj)} {σ : L2.St} {H : Hp} {s : Shared} {elt tg iter : Expr} {cs : List Comprehension} {scope : Scope} {own : List (Str × Nat)} {gpos : Pos} {wi : TI} {c P : Addr} {R : It → Hp → Prop} {Q' : Value → Shared → Prop} {d : Bool} {Q : V → Hp → Prop} {k : Nat}
    (hr : Room (k + 1) X.A) (hc : X.calm = true) (hN : X.N.Nodup) (TB : TabB X.base X.mg c P) (hcode : X.env.code = .ref c) (ok : GOk X.N X.env.scope scope own) (hi : PI X tg iter wi) (hs : ∀ v, genFold iter X.env v = pure v)
    (I : Inv X pins σ H s) (h : wi σ H fun J H1 => TabG H1 P ∧ ∀ H2, Tabbed P H1 H2 → R J H2)
    (hseg : ∀ (it : Addr) (fp : List Addr) (tn : Nat → Heap → Prop) (J : It) (H3 : Hp) (s3 : Shared) (code : Value) (a g0 : Nat) (go : Obj), R J H3 → Turn X.prog X.w X.K tg J fp it tn → (∀ h : Heap, h.get? a = some go → h.IsGen a g0) → (∀ b ∈ fp, a ≠ b) → (∀ b ∈ fp, H3 b = none) →
      (∀ H s, Inv (gcx X s3 H3 (genEnv scope (cloFrom X.env.cells scope.names []) s3.heap.objs.size code builtinsNs X.env) fp (X.A.in1.in1.over (gcode elt (⟨tg, iter, [], 0⟩ :: cs) scope gpos it (genEnv scope (cloFrom X.env.cells scope.names []) s3.heap.objs.size code builtinsNs X.env)) []) [(a, go)]) [] (wipe σ (own.map (·.2))) H s → Inv X pins σ H s) →
      ∃ n, ∀ s', Inv (gcx X s3 H3 (genEnv scope (cloFrom X.env.cells scope.names []) s3.heap.objs.size code builtinsNs X.env) fp (X.A.in1.in1.over (gcode elt (⟨tg, iter, [], 0⟩ :: cs) scope gpos it (genEnv scope (cloFrom X.env.cells scope.names []) s3.heap.objs.size code builtinsNs X.env)) []) [(a, go)]) [] (wipe σ (own.map (·.2))) H3 s' → tn 0 s'.heap →
        Seg (model X.prog X.w) X.A.in1.in1 (GRA fun s => ∃ H', Inv X pins σ H' s ∧ Q (.bl (!d)) H') (GYA a g0 d fun s => ∃ H', Inv X pins σ H' s ∧ Q (.bl d) H') n s' (gcode elt (⟨tg, iter, [], 0⟩ :: cs) scope gpos it (genEnv scope (cloFrom X.env.cells scope.names []) s3.heap.objs.size code builtinsNs X.env))
          ((model X.prog X.w).den (gcode elt (⟨tg, iter, [], 0⟩ :: cs) scope gpos it (genEnv scope (cloFrom X.env.cells scope.names []) s3.heap.objs.size code builtinsNs X.env))) [] s')
    (hQ : ∀ (a : Addr) (g0 n : Nat) (s5 : Shared), GAt X.prog X.w X.A.in1.in1 a g0 d (fun s => ∃ H', Inv X pins σ H' s ∧ Q (.bl (!d)) H') (fun s => ∃ H', Inv X pins σ H' s ∧ Q (.bl d) H') n s5 → Q' (.ref a) s5) :
    wpAny (model X.prog X.w) X.A (eval (.GeneratorExp elt (⟨tg, iter, [], 0⟩ :: cs) scope gpos) X.env) Q' X.xe s := by
  have hfree : ∀ y ∈ scope.names, y.2 = .free → ∃ c, X.env.cells.lookup y.1 = some c := fun y hy e => by
    rcases ok.blk.free y hy e with k | k
    · exact I.ok.has _ (.inl k)
    · exact I.ok.has _ (.inr k)
  refine make_ge ok.co (closure_ok hfree) ok.cell ok.dot ok.blk.kind hr.depth (thn (hi.run pins s σ H _ I h) fun xv s1 hx => thn hx fun itv s2 h2 => ?_) hs
  obtain ⟨it, fp, tn, J, H2, e, I2, T, st2, f2, ⟨ps, hP, ht⟩, q2⟩ := h2
  subst e
  have hPs : s2.heap.get? P = some { cls := .none, data := .fields ps } := I2.hok P _ hP
  have cd : PySem.W.CodeHd s2.heap c P := TB.code.keeps fun b u e => I2.bk b u e
  have cont : ∀ (code : Value) (h3 : Heap) (tk : Nat) (ps' : Array Value), Heap.ExtBut P s2.heap h3 → h3.get? P = some { cls := .none, data := .fields ps' } → (∃ more, ps' = ps ++ more) → TriplesOk ps'.toList →
      wpAny (model X.prog X.w) X.A (builtinsFor X.env.globals X.env.builtins) (fun bi s₄ =>
        ∀ h', h'.Ns s₄.heap.objs.size (fun y => if y = ".0" then some (.ref it) else none) → Heap.SameBut s₄.heap.objs.size (s₄.heap.push { cls := .type "frame", data := .dict #[] }) h' →
          Q' (.ref h'.objs.size) { s₄ with
            gens := s₄.gens.push (.fresh (.compStart (.GeneratorExp elt (⟨tg, iter, [], 0⟩ :: cs) scope gpos) 0 (.ref it) .none (genEnv scope (cloFrom X.env.cells scope.names []) s₄.heap.objs.size code bi X.env))),
            toks := s₄.toks + 1 + 1 + 1,
            heap := h'.push { cls := .type "generator", data := .fields #[.int s₄.gens.size 0, .str "<genexpr>" (s₄.toks + 1), .str (X.env.qual ++ "<genexpr>") (s₄.toks + 1 + 1)] } }) X.xe { s2 with heap := h3, toks := tk } := by
    intro code h3 tk ps' hx hP3 hmore ht3
    obtain ⟨bm, ob, e1, e2, e3, e4, e5, e6, e7, e8⟩ := TB.bm
    have keep3 : ∀ b u, b ≠ P → s2.heap.get? b = some u → h3.get? b = some u := fun b u hb e => hx b u hb e
    refine wpAny_builtinsFor (m := X.mg) (by rw [I2.ok.glob]; exact (I2.mod.glob.keeps I2.bk).extBut hx TB.gP) e1 e2 (keep3 _ _ e4 (I2.bk _ _ e5)) e6 e7 e8 ?_
    obtain ⟨more, em⟩ := hmore
    have I3 : Inv X pins σ (upd H2 P (.tbl (ps ++ more))) { s2 with heap := h3, toks := tk } := inv_tab (g' := s2.gens) (d' := s2.drawn) I2 hP keep3 (by rw [← em]; exact hP3) I2.bare
    have hTab : Tabbed P H2 (upd H2 P (.tbl (ps ++ more))) := ⟨⟨ps ++ more, upd_same, by rw [← em]; exact ht3⟩, fun b hb => upd_ne hb⟩
    have qR := q2 _ hTab
    generalize upd H2 P (.tbl (ps ++ more)) = H3 at I3 hTab qR
    generalize hs3 : ({ s2 with heap := h3, toks := tk } : Shared) = s3 at I3 ⊢
    have e3h : s3.heap = h3 := by rw [← hs3]
    intro h' hn' hs'
    have fpP : ∀ b ∈ fp, b ≠ P := fun b hb z => by
      have := (f2 b hb).1
      rw [z, hP] at this
      cases this
    have f3n : ∀ b ∈ fp, H3 b = none := fun b hb => by rw [hTab.2 b (fpP b hb)]; exact (f2 b hb).1
    have f3 : ∀ b ∈ fp, FpOk X pins H3 b ∧ b < s3.heap.objs.size := fun b hb => by
      refine ⟨⟨f3n b hb, (f2 b hb).2⟩, ?_⟩
      obtain ⟨o, e, _⟩ := T.obj _ _ st2 b hb
      rw [e3h]
      exact Heap.lt_size (keep3 b o (fpP b hb) e)
    have st3 : tn 0 s3.heap := T.keep _ _ _ st2 fun b hb o e => by rw [e3h]; exact keep3 b o (fpP b hb) e
    generalize hgo : ({ cls := .type "generator", data := .fields #[.int s3.gens.size 0, .str "<genexpr>" (s3.toks + 1), .str (X.env.qual ++ "<genexpr>") (s3.toks + 1 + 1)] } : Obj) = go
    have hgen : ∀ h : Heap, h.get? h'.objs.size = some go → h.IsGen h'.objs.size s3.gens.size := fun h e => ⟨go, _, _, e, by rw [← hgo], by rw [← hgo], by rw [← hgo]⟩
    have hsz : h'.objs.size = s3.heap.objs.size + 1 := by rw [hs'.1, Heap.size_push]
    have keep' : ∀ b o, s3.heap.get? b = some o → h'.get? b = some o := fun b o e => hs'.extBut b o (Nat.ne_of_lt (Heap.lt_size e)) (Heap.get?_push_of_some _ e)
    have keep5 : ∀ b o, s3.heap.get? b = some o → (h'.push go).get? b = some o := fun b o e => Heap.get?_push_of_some _ (keep' b o e)
    have afp : ∀ b ∈ fp, h'.objs.size ≠ b := fun b hb z => by
      have := (f3 b hb).2
      rw [← z, hsz] at this
      exact absurd (Nat.lt_of_succ_lt this) (Nat.lt_irrefl _)
    have back : ∀ H s, Inv (gcx X s3 H3 (genEnv scope (cloFrom X.env.cells scope.names []) s3.heap.objs.size code builtinsNs X.env) fp (X.A.in1.in1.over (gcode elt (⟨tg, iter, [], 0⟩ :: cs) scope gpos it (genEnv scope (cloFrom X.env.cells scope.names []) s3.heap.objs.size code builtinsNs X.env)) []) [(h'.objs.size, go)]) [] (wipe σ (own.map (·.2))) H s → Inv X pins σ H s := fun H s I6 =>
      I3.call' (ch := fp) I6.os I6.base I6.hok I6.bare fun b hb => ⟨(f3 b hb).1.2.2.2.1, (f3 b hb).1.2.1, (f3 b hb).1.2.2.2.2.1, (f3 b hb).1.2.2.2.2.2⟩
    obtain ⟨n, hn⟩ := hseg it fp tn J H3 s3 code h'.objs.size s3.gens.size go qR T hgen afp f3n back
    refine hQ h'.objs.size s3.gens.size n _ ?_
    have nolim : ∀ {s' : Shared}, (∀ b o, s3.heap.get? b = some o → s'.heap.get? b = some o) → s'.heap.NoLimit := fun {s'} k => I3.nolimit.keeps k
    refine ⟨hgen _ (Heap.get?_push_size _ (by rw [← hgo]; rfl)), I3.nolimit.keeps keep5, AllBare.push I3.bare rfl, _, Array.getElem?_push_size .., fun s' q => ⟨rfl, ?_⟩⟩
    have kq : ∀ b o, s3.heap.get? b = some o → s'.heap.get? b = some o := fun b o e => by rw [q.heap]; exact keep5 b o e
    have st5 : tn 0 s'.heap := T.keep _ _ _ st3 fun b hb o e => kq b o e
    refine seg_start T st5 (hn s' ?_ st5)
    refine gen_start I3 ok hN f3 hr.hd (gcode_frames (I3.ok.frames)) kq (m := fun y => if y = ".0" then some (.ref it) else none) ?_ (q.os.trans rfl) q.bare fun p hp => ?_
    · rw [q.heap]
      exact hn'.push _
    · rw [List.mem_singleton.mp hp]
      refine ⟨by rw [q.heap]; exact Heap.get?_push_size _ (by rw [← hgo]; rfl), by show s3.heap.objs.size < h'.objs.size; rw [hsz]; exact Nat.lt_succ_self _, fun v z => ?_⟩
      rw [← hgo] at z
      cases z
  refine ⟨I2.nolimit, ?_⟩
  cases hf : codeAmong gpos ps.toList with
  | none =>
    refine wpAny_genexprCodeX hcode (cd.code hPs ht) (cd.tab hPs) hf fun c' h' tk hx hge hlt hco' _ htab' _ => ?_
    obtain ⟨o1, vs, f1, tf, fl, tg', inF, tx, tt, op, _, _, _, _, _, _, _, _, _, htr, _⟩ := hco'
    exact cont _ h' tk _ hx htab'.2 ⟨_, rfl⟩ htr
  | some cv =>
    refine wpAny_genexprCode_hit hcode (cd.code hPs ht) hf ?_
    exact cont cv s2.heap s2.toks ps (Heap.ExtBut.refl _ _) hPs ⟨#[], by simp⟩ ht
end
end AL
set_option Elab.async false
set_option linter.all false
set_option maxRecDepth 100000
set_option maxHeartbeats 4000000
namespace AL
open PySem PySem.Spec PyProof.Rows L2
open GxR (TabB TabG Tabbed inv_tab sh_eta)

theorem wipe_back {vs : List Nat} {σ0 σ : L2.St} (h : wipe σ vs = σ0) : σ.length = σ0.length ∧ ∀ (i : Nat) v, σ0[i]? = some (some v) → σ[i]? = some (some v) := by
  subst h
  exact ⟨(wipe_length _ _).symm, fun i v e => (wipe_some e).1⟩

/-- all(e for x in it) (d = false), any(..) (d = true): by an invariant over (turn, turns that may follow, heap) -/
def tQuant (K : PySem.W.Frag) (P : Addr) (d : Bool) (wi : TI) (g : TG) (te : TE) (vs : List Nat) : TE := fun σ H Q => wi σ H fun J H1 => TabG H1 P ∧ ∀ H2, Tabbed P H1 H2 →
  ∃ W : Nat → Nat → Hp → Prop, (∃ m, W 0 m H2) ∧ W1 K J g te (wipe σ vs) vs d (Q (.bl (!d))) (Q (.bl d)) W
section
variable {X : Cx} {c P : Addr} {elt tg iter : Expr} {scope : Scope} {own : List (Str × Nat)} {p pos gpos : Pos} {wi : TI} {g : TG} {te : TE} {k : Nat}
theorem gen_one {pins : List (Addr × Obj)} {σ : L2.St} {H : Hp} {s : Shared} {d : Bool} {Q : V → Hp → Prop} {Q' : Value → Shared → Prop}
    (hr : Room (k + 1) X.A) (hc : X.calm = true) (hN : X.N.Nodup) (TB : TabB X.base X.mg c P) (hcode : X.env.code = .ref c) (ok : GOk X.N X.env.scope scope own) (hi : PI X tg iter wi) (hs : ∀ v, genFold iter X.env v = pure v)
    (hg : ∀ (s : Shared) (H : Hp) (C : Addr) (cl : List (Str × Addr)) (code : Value) (fp : List Addr) (A : Around) (pn : List (Addr × Obj)), PG (gcx X s H (genEnv scope cl C code builtinsNs X.env) fp A pn) tg g)
    (he : ∀ (s : Shared) (H : Hp) (C : Addr) (cl : List (Str × Addr)) (code : Value) (fp : List Addr) (A : Around) (pn : List (Addr × Obj)), Room k A → PE (gcx X s H (genEnv scope cl C code builtinsNs X.env) fp A pn) elt te)
    (I : Inv X pins σ H s) (h : tQuant X.K P d wi g te (own.map (·.2)) σ H Q)
    (hQ : ∀ (a : Addr) (g0 n : Nat) (s5 : Shared), GAt X.prog X.w X.A.in1.in1 a g0 d (fun s => ∃ H', Inv X pins σ H' s ∧ Q (.bl (!d)) H') (fun s => ∃ H', Inv X pins σ H' s ∧ Q (.bl d) H') n s5 → Q' (.ref a) s5) :
    wpAny (model X.prog X.w) X.A (eval (.GeneratorExp elt [⟨tg, iter, [], 0⟩] scope gpos) X.env) Q' X.xe s := by
  refine gen_made (R := fun J H2 => ∃ W : Nat → Nat → Hp → Prop, (∃ m, W 0 m H2) ∧ W1 X.K J g te (wipe σ (own.map fun x : Str × Nat => x.2)) (own.map fun x : Str × Nat => x.2) d (Q (.bl (!d))) (Q (.bl d)) W) (d := d) (Q := Q)
    hr hc hN TB hcode ok hi hs I h (fun it fp tn J H3 s3 code a g0 go hR T hgen afp f3n back => ?_) hQ
  obtain ⟨W, ⟨m, w0⟩, w1⟩ := hR
  refine ⟨m + 1, fun s' I' st' => ?_⟩
  exact seg_one (X := gcx X s3 H3 (genEnv scope (cloFrom X.env.cells scope.names []) s3.heap.objs.size code builtinsNs X.env) fp (X.A.in1.in1.over (gcode elt [⟨tg, iter, [], 0⟩] scope gpos it (genEnv scope (cloFrom X.env.cells scope.names []) s3.heap.objs.size code builtinsNs X.env)) []) [(a, go)])
    (go := go) (QT := Q (.bl (!d))) (QF := Q (.bl d)) hgen (fun c e => by subst e; rfl) ok.co rfl hc (fun _ _ z => z) (List.mem_singleton.mpr rfl) (fun q hq b hb => by rw [List.mem_singleton.mp hq]; exact afp b hb) (fun b hb => hb)
    T (fun vσ hv => wipe_back hv) (hg _ _ _ _ _ _ _ _) (he _ _ _ _ _ _ _ _ (gcode_room hr)) w1 (fun H s I6 q => ⟨H, back H s I6, q⟩) (fun H s I6 q => ⟨H, back H s I6, q⟩) m (m + 1) 0 s' s' H3 (Nat.lt_succ_self m) w0 I' st' f3n
theorem pe_allG (hr : Room (k + 1) X.A) (hc : X.calm = true) (hN : X.N.Nodup) (hgl : Gl X "all") (hm : X.mg "all" = none) (TB : TabB X.base X.mg c P) (hcode : X.env.code = .ref c) (ok : GOk X.N X.env.scope scope own) (hi : PI X tg iter wi)
    (hg : ∀ (s : Shared) (H : Hp) (C : Addr) (cl : List (Str × Addr)) (code : Value) (fp : List Addr) (A : Around) (pn : List (Addr × Obj)), PG (gcx X s H (genEnv scope cl C code builtinsNs X.env) fp A pn) tg g)
    (he : ∀ (s : Shared) (H : Hp) (C : Addr) (cl : List (Str × Addr)) (code : Value) (fp : List Addr) (A : Around) (pn : List (Addr × Obj)), Room k A → PE (gcx X s H (genEnv scope cl C code builtinsNs X.env) fp A pn) elt te)
    (hs : ∀ v, genFold iter X.env v = pure v := by intro _; rfl) (hb : bootBuiltins "all" = some (.builtin "all") := by decide +kernel)
    (hst : starEach [.GeneratorExp elt [⟨tg, iter, [], 0⟩] scope gpos] X.env = (false, eval (.GeneratorExp elt [⟨tg, iter, [], 0⟩] scope gpos) X.env) :: starEach [] X.env := by rfl) :
    PE X (.Call (.Name "all" p) [.GeneratorExp elt [⟨tg, iter, [], 0⟩] scope gpos] [] pos) (tQuant X.K P false wi g te (own.map (·.2))) := by
  refine ⟨fun pins s σ H Q I h => ?_⟩
  refine wpAny_Call_Name_kw (ld_blt I hgl hm hb ?_)
  refine PyProof.Rows.callWith_builtin1 ?_ hst (by rfl)
  rw [hst]
  show wpAny _ _ (spliced ((false, eval (.GeneratorExp elt [⟨tg, iter, [], 0⟩] scope gpos) X.env) :: backTo pos (starEach [] X.env))) _ _ s
  refine Calls.spliced_cons (gen_one (Q := Q) hr hc hN TB hcode ok hi hs hg he I h fun a g0 n s5 hG => ?_)
  refine Calls.spliced_nil ?_
  refine call_all_gen hr.hd hr.depth hG (fun s₁ s' hT hb' ho k' => ?_) (fun s₁ s' hF q => ?_) fun s ⟨H', J, _⟩ => J.bare
  · obtain ⟨H', J, q'⟩ := hT
    exact ⟨.bl true, H', inv_ext J ho hb' k', rfl, q'⟩
  · obtain ⟨H', J, q'⟩ := hF
    exact ⟨.bl false, H', inv_quietly J q, rfl, q'⟩
theorem pe_anyG (hr : Room (k + 1) X.A) (hc : X.calm = true) (hN : X.N.Nodup) (hgl : Gl X "any") (hm : X.mg "any" = none) (TB : TabB X.base X.mg c P) (hcode : X.env.code = .ref c) (ok : GOk X.N X.env.scope scope own) (hi : PI X tg iter wi)
    (hg : ∀ (s : Shared) (H : Hp) (C : Addr) (cl : List (Str × Addr)) (code : Value) (fp : List Addr) (A : Around) (pn : List (Addr × Obj)), PG (gcx X s H (genEnv scope cl C code builtinsNs X.env) fp A pn) tg g)
    (he : ∀ (s : Shared) (H : Hp) (C : Addr) (cl : List (Str × Addr)) (code : Value) (fp : List Addr) (A : Around) (pn : List (Addr × Obj)), Room k A → PE (gcx X s H (genEnv scope cl C code builtinsNs X.env) fp A pn) elt te)
    (hs : ∀ v, genFold iter X.env v = pure v := by intro _; rfl) (hb : bootBuiltins "any" = some (.builtin "any") := by decide +kernel)
    (hst : starEach [.GeneratorExp elt [⟨tg, iter, [], 0⟩] scope gpos] X.env = (false, eval (.GeneratorExp elt [⟨tg, iter, [], 0⟩] scope gpos) X.env) :: starEach [] X.env := by rfl) :
    PE X (.Call (.Name "any" p) [.GeneratorExp elt [⟨tg, iter, [], 0⟩] scope gpos] [] pos) (tQuant X.K P true wi g te (own.map (·.2))) := by
  refine ⟨fun pins s σ H Q I h => ?_⟩
  refine wpAny_Call_Name_kw (ld_blt I hgl hm hb ?_)
  refine PyProof.Rows.callWith_builtin1 ?_ hst (by rfl)
  rw [hst]
  show wpAny _ _ (spliced ((false, eval (.GeneratorExp elt [⟨tg, iter, [], 0⟩] scope gpos) X.env) :: backTo pos (starEach [] X.env))) _ _ s
  refine Calls.spliced_cons (gen_one (Q := Q) hr hc hN TB hcode ok hi hs hg he I h fun a g0 n s5 hG => ?_)
  refine Calls.spliced_nil ?_
  refine call_any_gen hr.hd hr.depth hG (fun s₁ s' hT hb' ho k' => ?_) (fun s₁ s' hF q => ?_) fun s ⟨H', J, _⟩ => J.bare
  · obtain ⟨H', J, q'⟩ := hT
    exact ⟨.bl false, H', inv_ext J ho hb' k', rfl, q'⟩
  · obtain ⟨H', J, q'⟩ := hF
    exact ⟨.bl true, H', inv_quietly J q, rfl, q'⟩
end
end AL
set_option Elab.async false
set_option linter.all false
set_option maxRecDepth 100000
set_option maxHeartbeats 4000000
namespace AL
open PySem PySem.Spec PyProof.Rows L2
open GxR (TabB TabG Tabbed inv_tab sh_eta)

/-- the second clause's walk, from a turn of the first -/
structure W2in (K : PySem.W.Frag) (J : It) (g : TG) (te : TE) (σ1 : L2.St) (vs1 : List Nat) (d : Bool) (QF : Hp → Prop) (m : Nat) (Nx : Nat → Hp → Prop) (W : Nat → Nat → Hp → Prop) : Prop where
  turn : ∀ j n H, n ≤ m → W j n H → (J.stop j H ∧ ∃ n', n' < m ∧ n' ≤ n ∧ Nx n' H) ∨ (J.go j H ∧ ∀ x H', J.yld j H x H' → g x σ1 H' fun σ2 H2 => wipe σ2 vs1 = σ1 ∧ te σ2 H2 fun y H3 => ∃ b, y = .bl b ∧ (b = d → QF H3) ∧ (b ≠ d → ∃ n', n' < n ∧ W (j + 1) n' H3))
/-- two clauses: the outer invariant W; a turn's own -/
structure W2 (K : PySem.W.Frag) (J : It) (g : TG) (wi1 : TI) (g1 : TG) (te : TE) (σ0 : L2.St) (vs0 vs1 : List Nat) (d : Bool) (QT QF : Hp → Prop) (W : Nat → Nat → Hp → Prop) : Prop where
  turn : ∀ i m H, W i m H → (J.stop i H ∧ QT H) ∨ (J.go i H ∧ ∀ x H', J.yld i H x H' → g x σ0 H' fun σ1 H2 => wipe σ1 vs0 = σ0 ∧ wi1 σ1 H2 fun J1 H3 =>
    ∃ WI : Nat → Nat → Hp → Prop, (∃ n, n ≤ m ∧ WI 0 n H3) ∧ W2in K J1 g1 te σ1 vs1 d QF m (fun n' H => W (i + 1) n' H) WI)

section
variable {X : Cx} {a : Addr} {g0 : Nat} {d : Bool} {FinT FinF : Shared → Prop} {QT QF : Hp → Prop} {ce : Env} {fp : List Addr} {A : Around} {go : Obj}

/-- the second clause's loop -/
theorem seg_inner {elt t0 i0 tg iter : Expr} {scope : Scope} {pos ppos : Pos} {it0 it : Addr} {tn : Nat → Heap → Prop} {J : It} {g : TG} {te : TE} {σ1 : L2.St} {vs1 : List Nat} {W : Nat → Nat → Hp → Prop} {fp1 : List Addr} {pins : List (Addr × Obj)} {m : Nat} {Nx : Nat → Hp → Prop}
    {k : Result → Sem PySem.Fin} {hm : Option Value} {lv : List Value} {kp : List Value}
    (hgo : ∀ h : Heap, h.get? a = some go → h.IsGen a g0)
    (hXA : A.over (.compLoop (.GeneratorExp elt [⟨t0, i0, [], 0⟩, ⟨tg, iter, [], 0⟩] scope pos) 1 (.ref it) .none ce) [.ret k hm false lv (.compLoop (.GeneratorExp elt [⟨t0, i0, [], 0⟩, ⟨tg, iter, [], 0⟩] scope pos) 0 (.ref it0) .none ce) ppos kp] = X.A) (hco : ce.scope.isCoroutine = false)
    (henv : X.env = ce) (hcalm : X.calm = true) (hxe : ∀ e s, ¬ X.xe e s) (hpn : (a, go) ∈ X.pn)
    (T : Turn X.prog X.w X.K tg J fp1 it tn) (hg : PG X tg g) (he : PE X elt te) (w1 : W2in X.K J g te σ1 vs1 d QF m Nx W)
    (hF : ∀ H s, Inv X pins σ1 H s → QF H → FinF s) (n0 : Nat)
    (hk : ∀ (n' n : Nat) (s₀ s : Shared) (H : Hp), n' < m → n' < n → Nx n' H → Inv X pins σ1 H s → Seg (model X.prog X.w) A (GRA FinT) (GYA a g0 d FinF) n s₀ (.compLoop (.GeneratorExp elt [⟨t0, i0, [], 0⟩, ⟨tg, iter, [], 0⟩] scope pos) 0 (.ref it0) .none ce) (k (.ok .next)) [] s) :
    ∀ (m1 n j : Nat) (s₀ s : Shared) (H : Hp), m1 < n → m1 ≤ m → W j m1 H → Inv X pins σ1 H s → tn j s.heap → (∀ b ∈ fp1, FpOk X pins H b) →
      Seg (model X.prog X.w) A (GRA FinT) (GYA a g0 d FinF) n s₀ (.compLoop (.GeneratorExp elt [⟨t0, i0, [], 0⟩, ⟨tg, iter, [], 0⟩] scope pos) 1 (.ref it) .none ce)
        ((model X.prog X.w).den (.compLoop (.GeneratorExp elt [⟨t0, i0, [], 0⟩, ⟨tg, iter, [], 0⟩] scope pos) 1 (.ref it) .none ce)) [.ret k hm false lv (.compLoop (.GeneratorExp elt [⟨t0, i0, [], 0⟩, ⟨tg, iter, [], 0⟩] scope pos) 0 (.ref it0) .none ce) ppos kp] s := by
  intro m1
  induction m1 using Nat.strongRecOn with
  | _ m1 ih =>
    intro n j s₀ s H hmn hmm hW I st hfp
    show Seg _ A _ _ _ s₀ _ ((compTurn (.GeneratorExp elt [⟨t0, i0, [], 0⟩, ⟨tg, iter, [], 0⟩] scope pos) 1 (.ref it) .none ce).onRaise (fun x => do noteFrame x ce; theTreesLotGoes x)) _ s
    rw [ge2_in, Sem.onRaise_eq_wrap]
    refine seg_bind_wrap (wpAny_standAt ?_)
    rcases w1.turn j m1 H hmm hW with ⟨stop, n', h1, h2, nx⟩ | ⟨go', step⟩
    · refine seg_bind_wrap ?_
      rw [hXA]
      refine thn (T.done X rfl rfl rfl hcalm j pins s σ1 H _ I hfp st stop) fun r s1 ⟨hr, I1⟩ => ?_
      subst hr
      exact seg_leaf (.ok .next) (hk n' n s₀ s1 H h1 (by omega) nx I1)
    · refine seg_bind_wrap ?_
      rw [hXA]
      refine thn (T.item X rfl rfl rfl hcalm j pins s σ1 H _ I hfp st go') fun r s1 ⟨u, hr, h1⟩ => ?_
      subst hr
      refine seg_bind_wrap ?_
      rw [hXA]
      refine wpAny_mono h1 (fun _ s2 hh => ?_) fun _ _ z => z
      obtain ⟨x, H2, I2, r2, y2, st2, n2⟩ := hh
      have fp2 : ∀ b ∈ fp1, FpOk X pins H2 b := fun b hb => ⟨n2 b hb, (hfp b hb).2⟩
      have I2' := I2.pinned fp2 (T.obj _ _ st2)
      refine seg_bind_wrap ?_
      rw [hXA]
      have hgr := hg.run _ s2 σ1 H2 x u _ I2' r2 (step x H2 y2)
      rw [henv] at hgr
      refine wpAny_mono hgr (fun _ s4 ⟨σ4, H4, I4, hw4, q4⟩ => ?_) fun e s' z => (hxe e s' z).elim
      have hy : ∀ v, yieldOut ce v = yieldValue v := fun v => by simp only [yieldOut, hco, Bool.false_eq_true, if_false]
      simp only [hy]
      rw [Sem.bind_eq_wrap', Sem.bind_eq_wrap', Sem.wrap_wrap, Sem.wrap_wrap]
      refine seg_wrap ?_
      rw [hXA]
      have her := he.run _ s4 σ4 H4 _ I4 q4
      rw [henv] at her
      refine wpAny_mono her (fun yv s5 ⟨y, H5, I5, r5, b, hyb, qd, qn⟩ => ?_) fun e s' z => (hxe e s' z).elim
      subst hyb
      have r5 : yv = .bool b := r5
      subst r5
      have pin' : ∀ q ∈ fp1, ∀ o, s2.heap.get? q = some o → s5.heap.get? q = some o ∧ H5 q = none := fun q hb o e =>
        let z := I5.pin (q, o) (List.mem_append_right _ (List.mem_append_right _ (mem_pinsAt hb e)))
        ⟨z.1, z.2.1⟩
      obtain ⟨hl4, hv4⟩ := wipe_back hw4
      have I6 : Inv X pins σ1 H5 s5 := (I5.unpinned (pins := pins)).weak hl4.symm fun j v e => hv4 j v e
      have hgen : s5.heap.IsGen a g0 := hgo _ (I6.pin (a, go) (List.mem_append_left _ hpn)).1
      by_cases hbd : b = d
      · cases n with
        | zero => omega
        | succ n => exact seg_at (seg_yield rfl rfl rfl ⟨b, rfl, hgen, I6.nolimit, I6.bare, fun _ => hF H5 s5 I6 (qd hbd), fun z => absurd hbd z⟩)
      · obtain ⟨m', hm', w'⟩ := qn hbd
        cases n with
        | zero => omega
        | succ n =>
          refine seg_at (seg_yield rfl rfl rfl ⟨b, rfl, hgen, I6.nolimit, I6.bare, fun z => absurd z hbd, fun _ s' q => ?_⟩)
          refine seg_again rfl (ih m' hm' n (j + 1) s' s' H5 (by omega) (by omega) w' (inv_quietly I6 q) ?_ fun q' hb => ?_)
          · rw [q.heap]
            exact T.keep _ _ _ st2 fun q' hb o e => (pin' q' hb o e).1
          · obtain ⟨o, e, _⟩ := T.obj _ _ st2 q' hb
            exact ⟨(pin' q' hb o e).2, (hfp q' hb).2⟩
end
end AL
set_option Elab.async false
set_option linter.all false
set_option maxRecDepth 100000
set_option maxHeartbeats 4000000
namespace AL
open PySem PySem.Spec PyProof.Rows L2
open GxR (TabB TabG Tabbed inv_tab sh_eta)
section
variable {X : Cx} {a : Addr} {g0 : Nat} {d : Bool} {FinT FinF : Shared → Prop} {QT QF : Hp → Prop} {ce : Env} {fp : List Addr} {A : Around} {go : Obj}

theorem seg_start1 {P : Program} {w : World} {R : GenEnd} {Y : Protocol} {n : Nat} {s₀ s : Shared} {elt tg iter : Expr} {c0 : Comprehension} {scope : Scope} {pos : Pos} {it : Addr} {K : PySem.W.Frag} {J : It} {tn : Nat → Heap → Prop} {fs : List Frame} (T : Turn P w K tg J fp it tn) (st : tn 0 s.heap)
    (h : Seg (model P w) A R Y n s₀ (.compLoop (.GeneratorExp elt [c0, ⟨tg, iter, [], 0⟩] scope pos) 1 (.ref it) .none ce) ((model P w).den (.compLoop (.GeneratorExp elt [c0, ⟨tg, iter, [], 0⟩] scope pos) 1 (.ref it) .none ce)) fs s) :
    Seg (model P w) A R Y n s₀ (.compStart (.GeneratorExp elt [c0, ⟨tg, iter, [], 0⟩] scope pos) 1 (.ref it) .none ce) ((model P w).den (.compStart (.GeneratorExp elt [c0, ⟨tg, iter, [], 0⟩] scope pos) 1 (.ref it) .none ce)) fs s := by
  show Seg _ A _ _ _ s₀ _ ((compStart (.GeneratorExp elt [c0, ⟨tg, iter, [], 0⟩] scope pos) 1 (.ref it) .none ce).onRaise (fun x => do noteFrame x ce; standAt theWindowsPlace)) fs s
  unfold compStart
  rw [Sem.onRaise_eq_wrap]
  show Seg _ A _ _ _ s₀ _ ((ask >>= _).wrap _ _ _ _) fs s
  refine seg_bind_wrap (wpAny_askSetting ?_)
  split
  · exact seg_again rfl h
  · refine seg_bind_wrap (wpAny_rule ?_)
    show Seg _ A _ _ _ s₀ _ ((standAt iter.pos >>= _).wrap _ _ _ _) fs s
    exact seg_bind_wrap (wpAny_standAt (seg_bind_wrap (T.self _ 0 s _ _ st (seg_again rfl h))))

theorem seg_outer {elt tg iter tg1 iter1 : Expr} {scope : Scope} {pos : Pos} {it : Addr} {tn : Nat → Heap → Prop} {J : It} {g g1 : TG} {wi1 : TI} {te : TE} {σ0 : L2.St} {vs0 vs1 : List Nat} {W : Nat → Nat → Hp → Prop}
    (hgo : ∀ h : Heap, h.get? a = some go → h.IsGen a g0)
    (hXA : A.over (gcode elt [⟨tg, iter, [], 0⟩, ⟨tg1, iter1, [], 0⟩] scope pos it ce) [] = X.A) (hco : ce.scope.isCoroutine = false)
    (henv : X.env = ce) (hcalm : X.calm = true) (hxe : ∀ e s, ¬ X.xe e s) (hpn : (a, go) ∈ X.pn)
    (hpn2 : ∀ p ∈ X.pn, ∀ b ∈ fp, p.1 ≠ b) (hex : ∀ b ∈ fp, b ∈ X.ex)
    (T : Turn X.prog X.w X.K tg J fp it tn)
    (hg : PG X tg g) (hi1 : PI X tg1 iter1 wi1) (hs1 : ∀ v, foldedSetIterable iter1 ce v = pure v) (hg1 : PG X tg1 g1) (he : PE X elt te) (w2 : W2 X.K J g wi1 g1 te σ0 vs0 vs1 d QT QF W)
    (hT : ∀ H s, Inv X [] σ0 H s → QT H → FinT s) (hF : ∀ H s, Inv X [] σ0 H s → QF H → FinF s) :
    ∀ (m n i : Nat) (s₀ s : Shared) (H : Hp), m < n → W i m H → Inv X [] σ0 H s → tn i s.heap → (∀ b ∈ fp, H b = none) →
      Seg (model X.prog X.w) A (GRA FinT) (GYA a g0 d FinF) n s₀ (gcode elt [⟨tg, iter, [], 0⟩, ⟨tg1, iter1, [], 0⟩] scope pos it ce)
        ((model X.prog X.w).den (gcode elt [⟨tg, iter, [], 0⟩, ⟨tg1, iter1, [], 0⟩] scope pos it ce)) [] s := by
  have stat : ∀ {σ' : L2.St} {H' : Hp} {s' : Shared}, Inv X [] σ' H' s' → (∀ b ∈ fp, H' b = none) → ∀ b ∈ fp, FpOk X [] H' b := fun {σ' H' s'} I' hn b hb =>
    ⟨hn b hb, (I'.ok.exf b (hex b hb)).1, I'.ok.exfs b (hex b hb), .inl (hex b hb), fun x c e => (I'.ok.exf b (hex b hb)).2 x c e, fun p hp => by
      rcases List.mem_append.mp hp with z | z
      · exact hpn2 p z b hb
      · cases z⟩
  intro m
  induction m using Nat.strongRecOn with
  | _ m ih =>
    intro n i s₀ s H hmn hW I st hfp
    show Seg _ A _ _ _ s₀ _ ((compTurn (.GeneratorExp elt [⟨tg, iter, [], 0⟩, ⟨tg1, iter1, [], 0⟩] scope pos) 0 (.ref it) .none ce).onRaise (leaving ce)) [] s
    rw [ge2_out, Sem.onRaise_eq_wrap]
    refine seg_bind_wrap (wpAny_standAt ?_)
    rcases w2.turn i m H hW with ⟨stop, qt⟩ | ⟨go', step⟩
    · refine seg_bind_wrap ?_
      rw [hXA]
      refine thn (T.done X rfl rfl rfl hcalm i [] s σ0 H _ I (stat I hfp) st stop) fun r s1 ⟨hr, I1⟩ => ?_
      subst hr
      exact seg_end (.ok .next) ⟨rfl, hT H s1 I1 qt⟩
    · refine seg_bind_wrap ?_
      rw [hXA]
      refine thn (T.item X rfl rfl rfl hcalm i [] s σ0 H _ I (stat I hfp) st go') fun r s1 ⟨u, hr, h1⟩ => ?_
      subst hr
      refine seg_bind_wrap ?_
      rw [hXA]
      refine wpAny_mono h1 (fun _ s2 hh => ?_) fun _ _ z => z
      obtain ⟨x, H2, I2, r2, y2, st2, n2⟩ := hh
      have I2' := I2.pinned (stat I2 n2) (T.obj _ _ st2)
      refine seg_bind_wrap ?_
      rw [hXA]
      have hgr := hg.run _ s2 σ0 H2 x u _ I2' r2 (step x H2 y2)
      rw [henv] at hgr
      refine wpAny_mono hgr (fun _ s4 ⟨σ4, H4, I4, hw4, q4⟩ => ?_) fun e s' z => (hxe e s' z).elim
      refine seg_bind_wrap ?_
      rw [hXA]
      have hir := hi1.run _ s4 σ4 H4 _ I4 q4
      rw [henv] at hir
      refine wpAny_mono hir (fun xv s5 hx5 => ?_) fun e s' z => (hxe e s' z).elim
      refine seg_bind_wrap (wpAny_standAt ?_)
      refine seg_bind_wrap (wpAny_of_eq (hs1 xv) ?_)
      refine seg_bind_wrap ?_
      rw [hXA]
      refine wpAny_holding (wpAny_mono hx5 (fun itv s6 h6 => ?_) fun e s' z => (hxe e s' z).elim)
      obtain ⟨it1, fp1, tn1, J1, H6, e, I6, T1, st6, f6, WI, ⟨n1, hn1, w6⟩, wi⟩ := h6
      subst e
      obtain ⟨hl4, hv4⟩ := wipe_back hw4
      have weak0 : ∀ {H' s'}, Inv X ([] ++ pinsAt fp s2.heap) σ4 H' s' → Inv X [] σ0 H' s' := fun {H' s'} J => (J.unpinned (pins := [])).weak hl4.symm fun j v e => hv4 j v e
      refine seg_call fun ppos => ?_
      refine seg_start1 T1 st6 ?_
      refine seg_inner (fp1 := fp1) (m := m) (Nx := fun n' H => W (i + 1) n' H) (pins := [] ++ pinsAt fp s2.heap) hgo ((GenW.over_loop rfl rfl).trans hXA) hco henv hcalm hxe hpn T1 hg1 he wi (fun H s J q => hF H s (weak0 J) q) 0 (fun n' n2 s₀' s' H' h1 h2 nx J => ?_) n1 n 0 s₀ s6 H6 (by omega) hn1 w6 I6 st6 f6
      have pin' : ∀ q ∈ fp, ∀ o, s2.heap.get? q = some o → s'.heap.get? q = some o ∧ H' q = none := fun q hb o e =>
        let z := J.pin (q, o) (List.mem_append_right _ (List.mem_append_right _ (mem_pinsAt hb e)))
        ⟨z.1, z.2.1⟩
      refine seg_again rfl (ih n' h1 n2 (i + 1) s₀' s' H' h2 nx (weak0 J) (T.keep _ _ _ st2 fun q' hb o e => (pin' q' hb o e).1) fun q' hb => ?_)
      obtain ⟨o, e, _⟩ := T.obj _ _ st2 q' hb
      exact (pin' q' hb o e).2
end
end AL
set_option Elab.async false
set_option linter.all false
set_option maxRecDepth 100000
set_option maxHeartbeats 4000000
namespace AL
open PySem PySem.Spec PyProof.Rows L2
open GxR (TabB TabG Tabbed inv_tab sh_eta)
/-- all(e for x in a for y in b) -/
def tQuant2 (K : PySem.W.Frag) (P : Addr) (d : Bool) (wi : TI) (g : TG) (wi1 : TI) (g1 : TG) (te : TE) (vs vs0 vs1 : List Nat) : TE := fun σ H Q => wi σ H fun J H1 => TabG H1 P ∧ ∀ H2, Tabbed P H1 H2 →
  ∃ W : Nat → Nat → Hp → Prop, (∃ m, W 0 m H2) ∧ W2 K J g wi1 g1 te (wipe σ vs) vs0 vs1 d (Q (.bl (!d))) (Q (.bl d)) W
section
variable {X : Cx} {c P : Addr} {elt tg iter tg1 iter1 : Expr} {scope : Scope} {own : List (Str × Nat)} {p pos gpos : Pos} {wi wi1 : TI} {g g1 : TG} {te : TE} {k : Nat} {vs0 vs1 : List Nat}
theorem pe_allG2 (hr : Room (k + 1) X.A) (hc : X.calm = true) (hN : X.N.Nodup) (hgl : Gl X "all") (hm : X.mg "all" = none) (TB : TabB X.base X.mg c P) (hcode : X.env.code = .ref c) (ok : GOk X.N X.env.scope scope own) (hi : PI X tg iter wi)
    (hg : ∀ (s : Shared) (H : Hp) (C : Addr) (cl : List (Str × Addr)) (code : Value) (fp : List Addr) (A : Around) (pn : List (Addr × Obj)), PG (gcx X s H (genEnv scope cl C code builtinsNs X.env) fp A pn) tg g)
    (hi1 : ∀ (s : Shared) (H : Hp) (C : Addr) (cl : List (Str × Addr)) (code : Value) (fp : List Addr) (A : Around) (pn : List (Addr × Obj)), Room k A → PI (gcx X s H (genEnv scope cl C code builtinsNs X.env) fp A pn) tg1 iter1 wi1)
    (hg1 : ∀ (s : Shared) (H : Hp) (C : Addr) (cl : List (Str × Addr)) (code : Value) (fp : List Addr) (A : Around) (pn : List (Addr × Obj)), PG (gcx X s H (genEnv scope cl C code builtinsNs X.env) fp A pn) tg1 g1)
    (he : ∀ (s : Shared) (H : Hp) (C : Addr) (cl : List (Str × Addr)) (code : Value) (fp : List Addr) (A : Around) (pn : List (Addr × Obj)), Room k A → PE (gcx X s H (genEnv scope cl C code builtinsNs X.env) fp A pn) elt te)
    (hs : ∀ v, genFold iter X.env v = pure v := by intro _; rfl) (hs1 : ∀ (C : Addr) (cl : List (Str × Addr)) (code : Value) v, foldedSetIterable iter1 (genEnv scope cl C code builtinsNs X.env) v = pure v := by intro _ _ _ _; rfl) (hb : bootBuiltins "all" = some (.builtin "all") := by decide +kernel)
    (hst : starEach [.GeneratorExp elt [⟨tg, iter, [], 0⟩, ⟨tg1, iter1, [], 0⟩] scope gpos] X.env = (false, eval (.GeneratorExp elt [⟨tg, iter, [], 0⟩, ⟨tg1, iter1, [], 0⟩] scope gpos) X.env) :: starEach [] X.env := by rfl) :
    PE X (.Call (.Name "all" p) [.GeneratorExp elt [⟨tg, iter, [], 0⟩, ⟨tg1, iter1, [], 0⟩] scope gpos] [] pos) (tQuant2 X.K P false wi g wi1 g1 te (own.map (·.2)) vs0 vs1) := by
  refine ⟨fun pins s σ H Q I h => ?_⟩
  refine wpAny_Call_Name_kw (ld_blt I hgl hm hb ?_)
  refine PyProof.Rows.callWith_builtin1 ?_ hst (by rfl)
  rw [hst]
  show wpAny _ _ (spliced ((false, eval (.GeneratorExp elt [⟨tg, iter, [], 0⟩, ⟨tg1, iter1, [], 0⟩] scope gpos) X.env) :: backTo pos (starEach [] X.env))) _ _ s
  refine Calls.spliced_cons (gen_made (own := own) (R := fun J H2 => ∃ W : Nat → Nat → Hp → Prop, (∃ m, W 0 m H2) ∧ W2 X.K J g wi1 g1 te (wipe σ (own.map fun x : Str × Nat => x.2)) vs0 vs1 false (Q (.bl (!false))) (Q (.bl false)) W) (d := false) (Q := Q)
    hr hc hN TB hcode ok hi hs I h (fun it fp tn J H3 s3 code a g0 go hR T hgen afp f3n back => ?_) fun a g0 n s5 hG => ?_)
  · obtain ⟨W, ⟨m, w0⟩, w1⟩ := hR
    refine ⟨m + 1, fun s' I' st' => ?_⟩
    exact seg_outer (X := gcx X s3 H3 (genEnv scope (cloFrom X.env.cells scope.names []) s3.heap.objs.size code builtinsNs X.env) fp (X.A.in1.in1.over (gcode elt [⟨tg, iter, [], 0⟩, ⟨tg1, iter1, [], 0⟩] scope gpos it (genEnv scope (cloFrom X.env.cells scope.names []) s3.heap.objs.size code builtinsNs X.env)) []) [(a, go)])
      (go := go) (QT := Q (.bl (!false))) (QF := Q (.bl false)) hgen rfl ok.co rfl hc (fun _ _ z => z) (List.mem_singleton.mpr rfl) (fun q hq b hb => by rw [List.mem_singleton.mp hq]; exact afp b hb) (fun b hb => hb)
      T (hg _ _ _ _ _ _ _ _) (hi1 _ _ _ _ _ _ _ _ (gcode_room hr)) (hs1 _ _ _) (hg1 _ _ _ _ _ _ _ _) (he _ _ _ _ _ _ _ _ (gcode_room hr)) w1 (fun H s I6 q => ⟨H, back H s I6, q⟩) (fun H s I6 q => ⟨H, back H s I6, q⟩) m (m + 1) 0 s' s' H3 (Nat.lt_succ_self m) w0 I' st' f3n
  refine Calls.spliced_nil ?_
  refine call_all_gen hr.hd hr.depth hG (fun s₁ s' hT hb' ho k' => ?_) (fun s₁ s' hF q => ?_) fun s ⟨H', J, _⟩ => J.bare
  · obtain ⟨H', J, q'⟩ := hT
    exact ⟨.bl true, H', inv_ext J ho hb' k', rfl, q'⟩
  · obtain ⟨H', J, q'⟩ := hF
    exact ⟨.bl false, H', inv_quietly J q, rfl, q'⟩
end
end AL
set_option Elab.async false
set_option linter.all false
set_option maxRecDepth 100000
set_option maxHeartbeats 4000000
namespace AL
open PySem PySem.Spec PyProof.Rows L2
open PySem.Froz (SD sObj tailTx addTx TxOk add_x add_ok)

/-- the payload can be walked -/
def WalkOk (w : World) (D : SD) : Prop := Ris D.2.2.place.toList ∧ (w.params.followText "set-order" = true ∨ D.2.2.led = true)
theorem walk_tail {w : World} {ep : Nat} {es1 : Array (Int × Value)} {t2 : SetTable} {b : Bool} (h1 : Ris t2.place.toList) (h2 : w.params.followText "set-order" = true ∨ t2.led = true) : WalkOk w (tailTx ep es1 t2 b) := by
  unfold tailTx
  split
  · exact ⟨relayAll_ris _ _ _, h2.imp id fun z => by rw [relayAll_led]; exact z⟩
  · exact ⟨h1, h2⟩
theorem walk_add {w : World} {D : SD} (h : Int) (v : Value) (W : WalkOk w D) : WalkOk w (addTx h v D) := by
  obtain ⟨W1, W2⟩ := W
  have r1 := layNew_ris D.2.2 D.1 h v W1
  have r2 : w.params.followText "set-order" = true ∨ (layNew D.2.2 D.1 h v).2.1.led = true := W2.imp id fun z => by rw [layNew_led]; exact z
  unfold addTx
  refine walk_tail ?_ ?_
  · split <;> exact r1
  · split <;> exact r2
/-- a set of texts at S: the texts l, each once -/
def SetS (P : Program) (w : World) (h : Heap) (S : Addr) (l : List Str) : Prop := ∃ D : SD, h.get? S = some (sObj "set" D) ∧ TxOk P w D l ∧ WalkOk w D ∧ l.Nodup
section
variable {P : Program} {w : World} {A : Around} {E : Value → Shared → Prop} {s : Shared}
theorem SetS.at {h h' : Heap} {S : Addr} {l : List Str} (R : SetS P w h S l) (k : ∀ o, h.get? S = some o → h'.get? S = some o) : SetS P w h' S l := by
  obtain ⟨D, a, b⟩ := R
  exact ⟨D, k _ a, b⟩
theorem setS_fresh {h : Heap} {S : Addr} (ho : h.get? S = some { cls := .type "set", dict := none, data := .set #[] 0 (.fresh 0 0 (!w.params.followText "set-order")) }) : SetS P w h S [] := by
  refine ⟨(#[], 0, .fresh 0 0 (!w.params.followText "set-order")), ho, Froz.TxOk.nil (by rfl), ⟨List.Pairwise.nil, ?_⟩, List.nodup_nil⟩
  show _ ∨ (!w.params.followText "set-order") = true
  cases w.params.followText "set-order"
  · exact .inr rfl
  · exact .inl rfl
/-- a text is put into it -/
theorem setS_add {a : Addr} {l : List Str} {k : Str} {u : Tok} {Q : Bool → Shared → Prop} (R : SetS P w s.heap a l) (hb : l.length + 1 < scanBound)
    (h : ∀ h' b, Heap.SameBut a s.heap h' → SetS P w h' a (if k ∈ l then l else k :: l) → Q b { s with heap := h' }) : wpAny (model P w) A (setAddHashed a (.str k u) (hashStr w k)) Q E s := by
  obtain ⟨D, ho, T, W, nd⟩ := R
  by_cases hk : k ∈ l
  · rw [if_pos hk] at h
    have goal := h s.heap false (Heap.SameBut.refl a s.heap) ⟨D, ho, T, W, nd⟩
    obtain ⟨es, ep, t⟩ := D
    have hkey : (strKind P w).is k (.str k u) = true := Froz.is_str k u
    have hsz : es.size = l.length := T.sz
    unfold setAddHashed setAddHashedIn
    refine wpAny_holding (wpAny_bind (wpAny_setState_of ho rfl T.fit ?_))
    dsimp only
    rw [byScan_of (x := Value.str k u) rfl (show es.size < scanBound by have : es.size = l.length := T.sz; omega) T.el]
    simp only [↓reduceIte]
    unfold setAddByScan
    refine wpAny_bind (wpAny_bind (wpAny_rule (wpAny_bind (wpAny_setScan_of (knd := strKind P w) (k := k) hkey ho rfl T.fit T.el ?_))))
    cases hfi : List.findIdx? (fun e => (strKind P w).is k e.2) es.toList with
    | none =>
      obtain ⟨e, he, q⟩ := (T.mem k).mp hk
      have c := List.findIdx?_eq_none_iff.mp hfi e he
      rw [q] at c
      cases c
    | some j =>
      dsimp only
      exact wpAny_pure (wpAny_pure goal)
  · rw [if_neg hk] at h
    refine add_x ho T hk hb (h _ true (Heap.SameBut.update s.heap a _) ⟨_, Froz.get_upd _ ho rfl, add_ok u T, walk_add _ _ W, List.nodup_cons.mpr ⟨hk, nd⟩⟩)
/-- what the loop has taken in -/
def took : List Str → List Str → List Str
  | [], l => l
  | k :: r, l => took r (if k ∈ l then l else k :: l)
theorem took_mem : ∀ (ss l : List Str) (k : Str), k ∈ took ss l ↔ k ∈ ss ∨ k ∈ l
  | [], l, k => by simp [took]
  | x :: r, l, k => by
    unfold took
    rw [took_mem r _ k, List.mem_cons]
    by_cases hx : x ∈ l
    · rw [if_pos hx]
      constructor
      · rintro (h | h)
        · exact .inl (.inr h)
        · exact .inr h
      · rintro ((h | h) | h)
        · exact .inr (h ▸ hx)
        · exact .inl h
        · exact .inr h
    · rw [if_neg hx, List.mem_cons]
      constructor
      · rintro (h | h | h)
        · exact .inl (.inr h)
        · exact .inl (.inl h)
        · exact .inr h
      · rintro ((h | h) | h)
        · exact .inr (.inl h)
        · exact .inl h
        · exact .inr (.inr h)
theorem took_len : ∀ (ss l : List Str), (took ss l).length ≤ ss.length + l.length
  | [], l => by simp [took]
  | x :: r, l => by
    unfold took
    have := took_len r (if x ∈ l then l else x :: l)
    split at this <;> split <;> simp only [List.length_cons] at * <;> first | omega | contradiction
theorem update_loop {I : Addr} {fp wr : List Addr} {G : Array GenState → Array GenState → Prop} {n : Nat} {Pv : Nat → Value → Prop} {St : Nat → Shared → Prop} {R : Result → Shared → Prop}
    (W : WalksS P w A.in1 I fp wr G n Pv St) (S : Addr) (hSf : S ∉ fp) (ss : List Str) (hn : n = ss.length) (hval : ∀ i v, Pv i v → ∃ k t, ss[i]? = some k ∧ v = .str k t) :
    ∀ (k i : Nat) (s : Shared) (l : List Str), n - i = k → i ≤ n → St i s → SetS P w s.heap S l → l.length + k + 1 < scanBound →
      (∀ s', Moved (S :: wr) G s s' → SetS P w s'.heap S (took (ss.drop i) l) → R (.ok (.ret .none)) s') →
      codeAny (model P w) A (.builtin "set.update.loop" ⟨[.ref S, .ref I], []⟩) R s := by
  have hSw : S ∉ wr := fun h => hSf (W.sub _ h)
  have hsub : ∀ b ∈ wr, b ∈ S :: wr := fun b hb => List.mem_cons_of_mem _ hb
  intro k
  induction k with
  | zero =>
    intro i s l hk hi hst hS _ hR
    obtain rfl : i = n := by omega
    refine codeAny_builtin F.entry_set_update_loop ?_
    rw [Around.under_plainId F.plain_set_update_loop _]
    show wpAny _ A.in1 (pyNext (.ref I) >>= _) _ _ s
    refine wpAny_bind (W.done s _ _ hst fun s' hm => wpAny_pure (hR s' (hm.mono hsub) ?_))
    rw [List.drop_of_length_le (by omega)]
    exact hS.at fun o e => hm.heap S o hSw e
  | succ k ih =>
    intro i s l hk hi hst hS hb hR
    have hlt : i < n := by omega
    refine codeAny_builtin F.entry_set_update_loop ?_
    rw [Around.under_plainId F.plain_set_update_loop _]
    show wpAny _ A.in1 (pyNext (.ref I) >>= _) _ _ s
    refine wpAny_bind (W.item i s _ _ hlt hst fun v s' hP hst' hm => ?_)
    obtain ⟨z, t, hz, rfl⟩ := hval i v hP
    have hS' : SetS P w s'.heap S l := hS.at fun o e => hm.heap S o hSw e
    show wpAny _ A.in1 (holding [Value.str z t] (setAdd S (.str z t)) >>= _) _ _ s'
    refine wpAny_bind (wpAny_holding ?_)
    unfold setAdd
    refine wpAny_holding (wpAny_bind ((strKind P w).pyHash (k := z) (Froz.is_str z t) ?_))
    refine setS_add (s := { s' with toks := s'.toks + 1 }) hS' (by omega) fun h' b hsb hS2 => ?_
    have hd : ss.drop i = z :: ss.drop (i + 1) := by
      obtain ⟨h1, h2⟩ := List.getElem?_eq_some_iff.mp hz
      rw [List.drop_eq_getElem_cons h1, h2]
    refine wpAny_pure ⟨plainId_quiet F.plain_set_update_loop _, ih (i + 1) _ _ (by omega) hlt (W.frame _ s' _ _ hst' (Nat.le_succ _) fun b hb o e => ?_) hS2 ?_ fun s'' hm'' hS'' => ?_⟩
    · rw [hsb.2 b (fun h : b = S => hSf (by rw [← h]; exact hb))]; exact e
    · split <;> (try simp only [List.length_cons]) <;> omega
    · refine hR s'' (Moved.trans W.gtrans ((hm.mono hsub).then_heap (Nat.le_succ _) fun b o hb e => ?_) hm'') ?_
      · rw [hsb.2 b (fun h : b = S => hb (by rw [h]; exact List.mem_cons_self))]; exact e
      · rw [hd]
        exact hS''
end
end AL
set_option Elab.async false
set_option linter.all false
set_option maxRecDepth 100000
set_option maxHeartbeats 4000000
namespace AL
open PySem PySem.Spec PyProof.Rows L2
open PySem.Froz (SD sObj tailTx addTx TxOk add_x add_ok)
section
variable {P : Program} {w : World} {A : Around} {E : Value → Shared → Prop} {s : Shared}
abbrev setObj0 (w : World) : Obj := { cls := .type "set", dict := none, data := .set #[] 0 (.fresh 0 0 (!w.params.followText "set-order")) }
theorem call_setS {l : Addr} {items : Array Value} {ss : List Str} {Q : Value → Shared → Prop} (hh : A.handled = none) (hl : s.heap.IsList l items) (hit : StrsAre items.toList ss) (hb : ss.length + 1 < scanBound)
    (h : ∀ (h' : Heap) (tk : Nat), SetS P w h' s.heap.objs.size (took ss []) → (∀ b o, s.heap.get? b = some o → h'.get? b = some o) → Q (.ref s.heap.objs.size) { s with heap := h', toks := tk }) :
    wpAny (model P w) A (call (.type "set") [.ref l]) Q E s := by
  have hisz : items.size = ss.length := by
    have q := StrsAre.length hit
    rw [Array.length_toList] at q
    exact q
  have hval : ∀ (i : Nat) (v : Value), items[i]? = some v → ∃ k t, ss[i]? = some k ∧ v = .str k t := fun i v hv => by
    have hi : i < ss.length := by rw [← hisz]; exact (Array.getElem?_eq_some_iff.mp hv).1
    obtain ⟨t, e⟩ := SS.strs_at hit i v (by rw [Array.getElem?_toList]; exact hv)
    refine ⟨ss[i], t, List.getElem?_eq_getElem hi, ?_⟩
    rw [e, List.getD_eq_getElem?_getD, List.getElem?_eq_getElem hi] <;> rfl
  obtain ⟨c, tl, hmro⟩ := F.called_set.mro
  have hmade := F.called_set.made
  have hsub := F.called_set.sub
  refine wpAny_call (codeAny_of_tree ?_)
  show wpAny _ _ (callAny (.type "set") _) _ _ _
  refine wpAny_pure ⟨Code.quiet_builtin _ (by decide +kernel), codeAny_builtin F.entry_type_call ?_⟩
  rw [Around.under_plain (weight_type_call_type "set" [.ref l] []) rfl]
  have h1 := F.called_set.notType
  have h2 := F.called_set.canCreate
  have hct := F.typeCall_set_1 (.ref l)
  repeat (any_goals (first | assumption | wp_step))
  refine codeAny_mono (code_set_led1 (.ref l) (E := E) (Q₁ := fun obj s₁ => obj = .ref s.heap.objs.size ∧ s₁ = { s with heap := s.heap.push (setObj0 w) }) ⟨rfl, rfl⟩) fun r s₁ hr => ?_
  cases r with
  | error e => exact hr
  | ok fl =>
    cases fl with
    | ret obj =>
      obtain ⟨rfl, rfl⟩ := hr
      have hS : (s.heap.push (setObj0 w)).get? s.heap.objs.size = some (setObj0 w) := Heap.get?_push_size _ rfl
      have hT : Shared.TypeIs { s with heap := s.heap.push (setObj0 w) } (.ref s.heap.objs.size) "set" := ⟨_, hS, rfl⟩
      have hli := F.called_set.init.lookup
      have hbi := F.called_set.init.bind (.ref s.heap.objs.size)
      repeat (any_goals (first | assumption | wp_step))
      refine codeAny_mono (codeAny_call_builtin (R := wants (fun r s₂ => r = .none ∧ ∃ h' tk, s₂ = { s with heap := h', toks := tk } ∧ SetS P w h' s.heap.objs.size (took ss []) ∧
          (∀ b o, s.heap.get? b = some o → h'.get? b = some o)) E) F.called_set.init.plain F.entry_set_init (check_set_init_1 hT ?_)) fun r₂ s₂ hr₂ => ?_
      · obtain ⟨ol, hol, hcl, nl, hdl⟩ := hl
        obtain ⟨ocls, odict, odata, oslots⟩ := ol
        simp only at hcl hdl
        subst hcl; subst hdl
        have hol' : (s.heap.push (setObj0 w)).get? l = some { cls := .type "list", dict := odict, data := .seq items nl, slots := oslots } := Heap.get?_push_of_some _ hol
        have hsls := F.sub_list_set
        have hslf := F.sub_list_frozenset
        have hne : (Value.type "list" == Value.type "dict") = false := by decide
        have hl1 : (s.heap.push (setObj0 w)).IsList l items := ⟨_, hol', rfl, nl, rfl⟩
        unfold Builtin.«set.__init__» noKeywords Builtin.Frozenset.updateFrom
        generalize hPI : pyIter = PI
        wp_walk
        subst hPI
        refine wpAny_pyIter_list hl1 ?_
        refine wpAny_bind (wpAny_runValue ?_)
        have hlS : l < s.heap.objs.size := Heap.lt_size hol
        have hh3 : A.in1.in1.in1.handled = none := by simp [hh]
        have hneI : l ≠ (s.heap.push (setObj0 w)).objs.size := by
          rw [Heap.size_push]; exact Nat.ne_of_lt (Nat.lt_succ_of_lt hlS)
        have hSf : s.heap.objs.size ∉ [(s.heap.push (setObj0 w)).objs.size, l] := by
          rw [Heap.size_push]; simp only [List.mem_cons, List.mem_singleton, List.not_mem_nil, or_false, not_or]
          exact ⟨Nat.ne_of_lt (Nat.lt_succ_self _), Nat.ne_of_gt hlS⟩
        refine update_loop ((Walks.list hh3 _ l hneI items).toS) s.heap.objs.size
          hSf ss hisz hval (items.size - 0) 0 _ [] (by omega) (Nat.zero_le _)
          ⟨⟨_, Heap.get?_push_size _ rfl, rfl, rfl⟩, (hl1.push _)⟩ (setS_fresh (Heap.get?_push_of_some _ hS)) (by rw [hisz]; simp only [List.length_nil]; omega) fun s' hm hS' => ?_
        obtain ⟨h', g2, d', tk', os'⟩ := s'
        have eg : g2 = s.gens := hm.gens
        have ed : d' = s.drawn := hm.drawn
        have eo : os' = s.os := hm.os
        subst eg; subst ed; subst eo
        show wpAny _ _ _ _ _ _
        refine wpAny_pure ?_
        show wpAny _ _ (ret Value.none) _ _ _
        refine wpAny_pure ⟨rfl, h', tk', rfl, hS', fun b o e => ?_⟩
        have hb0 : b < s.heap.objs.size := Heap.lt_size e
        have hb2 : b ≠ (s.heap.push (setObj0 w)).objs.size := by
          rw [Heap.size_push]; exact Nat.ne_of_lt (Nat.lt_succ_of_lt hb0)
        exact hm.heap b o (by simp only [List.mem_cons, List.mem_singleton, List.not_mem_nil, or_false, not_or]; exact ⟨Nat.ne_of_lt hb0, hb2⟩) (Heap.get?_push_of_some _ (Heap.get?_push_of_some _ e))
      · cases r₂ with
        | error e => exact hr₂
        | ok fl₂ =>
          cases fl₂ with
          | ret r =>
            obtain ⟨rfl, h', tk, rfl, hS', hk'⟩ := hr₂
            repeat (any_goals (first | assumption | wp_step))
            exact h _ _ hS' hk'
          | _ => exact hr₂.elim
    | _ => exact hr.elim
end
end AL
set_option Elab.async false
set_option linter.all false
set_option maxRecDepth 100000
set_option maxHeartbeats 4000000
namespace AL
open PySem PySem.Spec PyProof.Rows L2
open PySem.Froz (SD sObj tailTx addTx TxOk add_x add_ok)
/-- a list without doubles, within another of no more items: the same items -/
theorem perm_of_sub : ∀ (l m : List Str), l.Nodup → (∀ k ∈ l, k ∈ m) → m.length ≤ l.length → l.Perm m
  | [], m, _, _, h => by
    have : m = [] := List.length_eq_zero_iff.mp (by simpa using h)
    rw [this]
  | x :: l, m, nd, hs, h => by
    have hx : x ∈ m := hs x List.mem_cons_self
    have hp : m.Perm (x :: m.erase x) := List.perm_cons_erase hx
    have hnd := List.nodup_cons.mp nd
    refine List.Perm.trans (List.Perm.cons x (perm_of_sub l (m.erase x) hnd.2 (fun k hk => ?_) ?_)) hp.symm
    · have hk' := hp.mem_iff.mp (hs k (List.mem_cons_of_mem _ hk))
      rcases List.mem_cons.mp hk' with e | e
      · exact absurd (e ▸ hk) hnd.1
      · exact e
    · have := hp.length_eq
      simp only [List.length_cons] at this h
      omega
section
variable {P : Program} {w : World} {A : Around} {E : Value → Shared → Prop} {s : Shared}
theorem sorted_setS {a : Addr} {l : List Str} {Q : Value → Shared → Prop} (R : SetS P w s.heap a l) (hh : A.handled = none) (h64 : l.length < 64)
    (hQ : ∀ s' p (out : Array Value) (c : Nat) (ys : List Str), (∀ b o, s.heap.get? b = some o → s'.heap.get? b = some o) → s'.gens = s.gens → s'.os = s.os → s.heap.objs.size ≤ p →
      s'.heap.get? p = some (seqObj "list" out c) → StrsAre out.toList ys → ys.Perm l → sortedS ys = true → Q (.ref p) s') :
    wpAny (model P w) A (call (.builtin "sorted") [.ref a]) Q E s := by
  obtain ⟨⟨es, ep, t⟩, ho, T, ⟨W1, W2⟩, nd⟩ := R
  have hsz : es.size = l.length := T.sz
  have hb : es.size < scanBound := by unfold scanBound; omega
  refine Calls.call_function_entry kind_sorted plain_sorted entry_sorted (args_sorted1 _) ?_
  unfold Builtin.«sorted»
  refine wpAny_bind (m := checkCount "sorted" 1 1 _) (wpAny_pure ?_)
  refine wpAny_bind (collect_set (A := A.in1) hh ⟨_, ho, rfl, rfl⟩ T.fit hb W1 W2 fun s1 vs k1 hz g1 o1 pm => ?_)
  have hvl : vs.length = l.length := by rw [pm.length_eq, List.length_map, Array.length_toList]; exact hsz
  have hstr : ∀ v ∈ vs, ∃ x t, v = Value.str x t := fun v hv => by
    obtain ⟨e, he, q⟩ := List.mem_map.mp (pm.mem_iff.mp hv)
    obtain ⟨⟨k, hk, _⟩, _⟩ := T.el e he
    obtain ⟨tk, z⟩ := Value.isStrOf_shape (x := k) (v := e.2) hk
    exact ⟨k, tk, by rw [← q]; exact z⟩
  have hS : StrsAre vs (vs.map strOf) := strsAre_map vs hstr
  have hperm : l.Perm (vs.map strOf) := by
    refine perm_of_sub l _ nd (fun k hk => ?_) (by rw [List.length_map, hvl]; exact Nat.le_refl _)
    obtain ⟨e, he, q⟩ := (T.mem k).mp hk
    obtain ⟨tk, z⟩ := Value.isStrOf_shape (x := k) (v := e.2) q
    refine List.mem_map.mpr ⟨e.2, pm.mem_iff.mpr (List.mem_map.mpr ⟨e, he, rfl⟩), ?_⟩
    rw [z] <;> rfl
  refine wpAny_bind (wpAny_newList ?_ (by rw [hvl, sizeLine_eq]; omega))
  have hoL : (s1.heap.push (seqObj "list" vs.toArray 0)).get? s1.heap.objs.size = some (seqObj "list" vs.toArray 0) := Heap.get?_push_size _ rfl
  refine wpAny_bind (wpAny_holding (wpAny_call_entry slot_list_sort ⟨_, hoL, rfl⟩ entry_list_sort
    (list_sort_treeK strKind_oneLt hoL hS.keysOf (fun v₁ v₂ rest e => keyKind_strs (by rw [← e]; exact hS)) (by rw [hvl]; exact h64) fun st' hp hs => ⟨_, rfl, ?_⟩) (args_list_sort _)))
  obtain ⟨ys, g3, g4, g5⟩ := sorted_out_str hS hp hs
  obtain ⟨c, hc⟩ := sortedHeap_at (vs := vs) (out := (arrOf st').map (·.2)) hoL
  refine wpAny_pure ⟨_, rfl, hQ _ s1.heap.objs.size _ c ys (fun b u e => ?_) g1 o1 hz hc g3 (g4.trans hperm.symm) g5⟩
  have q := k1 b u e
  have hlt := Heap.lt_size q
  show (sortedHeap (s1.heap.push (seqObj "list" vs.toArray 0)) s1.heap.objs.size vs _).get? b = some u
  rw [sortedHeap_old (Nat.ne_of_lt hlt) (by rw [size_push']; exact Nat.lt_succ_of_lt hlt)]
  exact Heap.get?_push_of_some _ q
end
section
variable {X : Cx}
/-- sorted(set(e)), e a list of texts, fewer than 64: each once, in order -/
def tSortSet (K : PySem.W.Frag) (ta : TE) : TE := fun σ H Q => ta σ H fun x H1 => ∃ (l : Addr) (xs : List Str), x = .ref l ∧ SqL K H1 l (xs.map V.str) ∧ xs.length < 64 ∧
  ∀ (ys : List Str) (p : Addr), sortedS ys = true → ys.Nodup → (∀ k, k ∈ ys ↔ k ∈ xs) → H1 p = none → Q (.ref p) (upd H1 p (.lst (ys.map V.str)))
theorem pe_sortSet {a : Expr} {ta : TE} {p p2 q pos : Pos} (hc : X.calm = true) (hg : Gl X "sorted") (hm : X.mg "sorted" = none) (hg2 : Gl X "set") (hm2 : X.mg "set" = none) (ha : PE X a ta)
    (hb : bootBuiltins "sorted" = some (.builtin "sorted") := by decide +kernel) (hb2 : bootBuiltins "set" = some (.type "set") := by decide +kernel)
    (he : starEach [.Call (.Name "set" p2) [a] [] q] X.env = (false, eval (.Call (.Name "set" p2) [a] [] q) X.env) :: starEach [] X.env := by rfl)
    (he2 : starEach [a] X.env = (false, eval a X.env) :: starEach [] X.env := by rfl) :
    PE X (.Call (.Name "sorted" p) [.Call (.Name "set" p2) [a] [] q] [] pos) (tSortSet X.K ta) := by
  refine ⟨fun pins s σ H Q I h => ?_⟩
  refine wpAny_Call_Name_kw (ld_blt I hg hm hb ?_)
  refine PyProof.Rows.callWith_builtin1 ?_ he (by rfl)
  rw [he]
  show wpAny _ _ (spliced ((false, eval (.Call (.Name "set" p2) [a] [] q) X.env) :: backTo pos (starEach [] X.env))) _ _ s
  refine Calls.spliced_cons ?_
  refine wpAny_Call_Name_kw (ld_blt I hg2 hm2 hb2 ?_)
  refine PyProof.Rows.callWith_type1 ?_ he2 (by rfl)
  rw [he2]
  show wpAny _ _ (spliced ((false, eval a X.env) :: backTo q (starEach [] X.env))) _ _ s
  refine Calls.spliced_cons (thn (ha.run pins s σ H _ I h) fun u s1 ⟨x, H1, I1, r1, l, xs, ex, hs, h64, q1⟩ => Calls.spliced_nil ?_)
  subst ex
  obtain rfl : u = Value.ref l := r1
  obtain ⟨its, rv, hl, _⟩ := I1.list hs
  have hlen : its.length = xs.length := by
    have z := rv.length
    rw [List.length_map] at z
    exact z.symm
  have hh := I1.ok.hd hc
  refine call_setS hh hl.isList (rv.strs) (by unfold scanBound; omega) fun h' tk R k => ?_
  have I2 : Inv X pins σ H1 { s1 with heap := h', toks := tk } := I1.kept k
  refine Calls.spliced_nil ?_
  have hR64 : (took xs []).length < 64 := by
    have := took_len xs []
    simp only [List.length_nil] at this
    omega
  refine sorted_setS (s := { s1 with heap := h', toks := tk }) R hh hR64 fun s' p out c ys k2 g o hp hg3 hi hperm hsort => ?_
  have hlen2 : (ys.map V.str).length ≤ sizeLine := by rw [List.length_map, hperm.length_eq]; exact small64 hR64
  have hn : H1 p = none := I2.hok.fresh hp
  have J : Inv X pins σ (upd H1 p (.lst (ys.map V.str))) { ({ s1 with heap := h', toks := tk } : Shared) with heap := s'.heap, gens := s'.gens, drawn := s'.drawn, toks := s'.toks } :=
    I2.call (ch := []) (Un.laid k2 hp hn) (I2.hok.laid k2 hp ⟨hlen2, out.toList, c, vals_of_strs hi, hg3⟩) (by rw [g]; exact I2.bare) (fun _ z => nomatch z)
  have e : s' = { ({ s1 with heap := h', toks := tk } : Shared) with heap := s'.heap, gens := s'.gens, drawn := s'.drawn, toks := s'.toks } := by
    cases s'
    cases s1
    cases o
    rfl
  rw [e]
  refine ⟨.ref p, _, J, rfl, q1 ys p hsort (hperm.nodup_iff.mpr ?_) (fun k => ?_) hn⟩
  · obtain ⟨_, _, _, _, nd⟩ := R
    exact nd
  · rw [hperm.mem_iff, took_mem]
    simp
end
end AL
set_option Elab.async false
set_option linter.all false
set_option maxRecDepth 100000
set_option maxHeartbeats 4000000
namespace AL
open PySem PySem.Spec PyProof.Rows L2
section
variable {X : Cx}
/-- len(set(e)), e a list of texts, each once -/
def tLenSetD (K : PySem.W.Frag) (ta : TE) : TE := fun σ H Q => ta σ H fun x H1 => ∃ (l : Addr) (xs : List Str), x = .ref l ∧ SqL K H1 l (xs.map V.str) ∧ xs.length < 1000 ∧ xs.Nodup ∧ Q (.int xs.length) H1
theorem took_perm {xs : List Str} (nd : xs.Nodup) (n2 : (took xs []).Nodup) : (took xs []).length = xs.length := by
  have h1 := took_len xs []
  have h2 : xs.length ≤ (took xs []).length := by
    have p := perm_of_sub xs (took xs []) nd (fun k hk => (took_mem xs [] k).mpr (.inl hk)) (by simpa using h1)
    rw [p.length_eq]
    exact Nat.le_refl _
  simp only [List.length_nil] at h1
  omega
theorem pe_lenSet {a : Expr} {ta : TE} {p p2 q pos : Pos} (hc : X.calm = true) (hg : Gl X "len") (hm : X.mg "len" = none) (hg2 : Gl X "set") (hm2 : X.mg "set" = none) (ha : PE X a ta)
    (hb : bootBuiltins "len" = some (.builtin "len") := by decide +kernel) (hb2 : bootBuiltins "set" = some (.type "set") := by decide +kernel)
    (he : starEach [.Call (.Name "set" p2) [a] [] q] X.env = (false, eval (.Call (.Name "set" p2) [a] [] q) X.env) :: starEach [] X.env := by rfl)
    (he2 : starEach [a] X.env = (false, eval a X.env) :: starEach [] X.env := by rfl) :
    PE X (.Call (.Name "len" p) [.Call (.Name "set" p2) [a] [] q] [] pos) (tLenSetD X.K ta) := by
  refine ⟨fun pins s σ H Q I h => ?_⟩
  refine wpAny_Call_Name_kw (ld_blt I hg hm hb ?_)
  refine PyProof.Rows.callWith_builtin1 ?_ he (by rfl)
  rw [he]
  show wpAny _ _ (spliced ((false, eval (.Call (.Name "set" p2) [a] [] q) X.env) :: backTo pos (starEach [] X.env))) _ _ s
  refine Calls.spliced_cons ?_
  refine wpAny_Call_Name_kw (ld_blt I hg2 hm2 hb2 ?_)
  refine PyProof.Rows.callWith_type1 ?_ he2 (by rfl)
  rw [he2]
  show wpAny _ _ (spliced ((false, eval a X.env) :: backTo q (starEach [] X.env))) _ _ s
  refine Calls.spliced_cons (thn (ha.run pins s σ H _ I h) fun u s1 ⟨x, H1, I1, r1, l, xs, ex, hs, hsz, nd, q1⟩ => Calls.spliced_nil ?_)
  subst ex
  obtain rfl : u = Value.ref l := r1
  obtain ⟨its, rv, hl, _⟩ := I1.list hs
  have hh := I1.ok.hd hc
  refine call_setS hh hl.isList (rv.strs) (by unfold scanBound; omega) fun h' tk R k => ?_
  have I2 : Inv X pins σ H1 { s1 with heap := h', toks := tk } := I1.kept k
  refine Calls.spliced_nil ?_
  obtain ⟨⟨es, ep, t⟩, ho, T, _, n2⟩ := R
  have sz : es.size = xs.length := (show es.size = (took xs []).length from T.sz).trans (took_perm nd n2)
  exact call_len_set (ep := ep) (t := t) ho ⟨rfl, rfl, rfl⟩ rfl T.fit (by rw [sz]; omega) ⟨.int xs.length, H1, I2.tok _, ⟨_, by rw [sz]⟩, q1⟩
end
end AL
set_option Elab.async false
set_option linter.all false
set_option maxRecDepth 100000
set_option maxHeartbeats 4000000
namespace AL
open PySem PySem.Spec PyProof.Rows L2

/-! ### the order of texts -/
def sLt (a b : Str) : Prop := a.cps.toList < b.cps.toList
instance (a b : Str) : Decidable (sLt a b) := inferInstanceAs (Decidable (a.cps.toList < b.cps.toList))
theorem sLt_trans' {a b c : Str} (h1 : ¬ sLt b a) (h2 : ¬ sLt c b) : ¬ sLt c a := List.le_trans (show a.cps.toList ≤ b.cps.toList from h1) h2
theorem str_ext {a b : Str} (h : a.cps.toList = b.cps.toList) : a = b := by
  cases a; cases b
  congr 1
  exact Array.toList_inj.mp h
theorem sLt_tri {a b : Str} (h1 : ¬ sLt b a) (h2 : ¬ sLt a b) : a = b := str_ext (List.le_antisymm (show a.cps.toList ≤ b.cps.toList from h1) h2)
theorem sLt_irrefl (a : Str) : ¬ sLt a a := List.lt_irrefl _
theorem sLt_asymm {a b : Str} (h : sLt a b) : ¬ sLt b a := fun h2 => by
  have := List.lt_trans (show a.cps.toList < b.cps.toList from h) h2
  exact List.lt_irrefl _ this
theorem sLt_tr {a b c : Str} (h : sLt a b) (h2 : sLt b c) : sLt a c := List.lt_trans (show a.cps.toList < b.cps.toList from h) h2

/-! ### min(d), the keys texts -/
theorem argBest_str (f : Nat → Str) : ∀ k, argBest (fun i j => decide (sLt (f i) (f j))) k ≤ k ∧ ∀ j, j ≤ k → ¬ sLt (f j) (f (argBest (fun i j => decide (sLt (f i) (f j))) k))
  | 0 => ⟨Nat.le_refl _, fun j hj => by
    have : j = 0 := by omega
    subst this
    exact sLt_irrefl _⟩
  | k + 1 => by
    obtain ⟨h1, h2⟩ := argBest_str f k
    simp only [argBest]
    by_cases hc : sLt (f (k + 1)) (f (argBest (fun i j => decide (sLt (f i) (f j))) k))
    · rw [if_pos (by simpa using hc)]
      refine ⟨Nat.le_refl _, fun j hj => ?_⟩
      rcases Nat.lt_or_ge j (k + 1) with hlt | hge
      · exact fun z => h2 j (by omega) (sLt_tr z hc)
      · have : j = k + 1 := by omega
        subst this
        exact sLt_irrefl _
    · rw [if_neg (by simpa using hc)]
      refine ⟨by omega, fun j hj => ?_⟩
      rcases Nat.lt_or_ge j (k + 1) with hlt | hge
      · exact h2 j (by omega)
      · have : j = k + 1 := by omega
        subst this
        exact hc
theorem cmp_strs {prog : Program} {w : World} {A : Around} {P : Nat → Value → Prop} (val : Nat → Str) (hval : ∀ i v, P i v → ∃ t, v = .str (val i) t) : CmpOf prog w A .Lt P (fun i j => decide (sLt (val i) (val j))) := fun i j vi vj s Q E hi hj h => by
  obtain ⟨t, rfl⟩ := hval i vi hi
  obtain ⟨u, rfl⟩ := hval j vj hj
  exact PySem.P.lt_str h
section
variable {X : Cx}
/-- min(d), d a dict whose keys are texts, one at least -/
theorem call_minD (hc : X.calm = true) : CallR X (.builtin "min") (fun xs H Q => ∃ (a : Addr) (kvs : List (Key × V)) (ks : List Str), xs = [.ref a] ∧ Rd H a (.dK kvs) ∧ kvs.map (·.1) = ks.map Sum.inr ∧ ks ≠ [] ∧ ∀ m, m ∈ ks → (∀ k ∈ ks, ¬ sLt k m) → Q (.str m) H) := by
  intro pins s σ H xs us Q I r h
  obtain ⟨a, kvs, ks, rfl, ha, hks, hne, q⟩ := h
  rw [Vals.ref1 r]
  obtain ⟨_, hsys, vs, rel, dof⟩ := dk_rd I.hok ha
  obtain ⟨ep, dat⟩ := dof.dictAt
  have dat' := dat
  obtain ⟨ob, es, ho, ex, hdat, hko, hpr, hnd⟩ := dat'
  have hlv : vs.length = ks.length := by
    have e1 := congrArg List.length hks
    rw [List.length_map, List.length_map] at e1
    rw [← e1]
    exact (KV.length rel).symm
  have hlen : 0 < vs.length := by
    rw [hlv]
    exact List.length_pos_iff.mpr hne
  have keyAt : ∀ (i : Nat) (k : Key) (v : Value), vs[i]? = some (k, v) → ∃ x : Str, ks[i]? = some x ∧ k = .inr x := fun i k v hk => by
    obtain ⟨x, h1, h2⟩ := KV.at' rel hk
    have e1 : (kvs.map (·.1))[i]? = some k := by rw [List.getElem?_map, h1] <;> rfl
    rw [hks, List.getElem?_map] at e1
    obtain ⟨j, hj, e2⟩ := Option.map_eq_some_iff.mp e1
    exact ⟨j, hj, e2.symm⟩
  have hval : ∀ (i : Nat) (v : Value), (∃ k x, vs[i]? = some (k, x) ∧ (mixKind X.prog X.w).is k v = true) → ∃ t, v = Value.str (ks.getD i Str.empty) t := fun i v ⟨k, x, hk, hv⟩ => by
    obtain ⟨z, hz, rfl⟩ := keyAt i k x hk
    obtain ⟨t, e⟩ := Value.isStrOf_shape (x := z) (v := v) hv
    refine ⟨t, ?_⟩
    rw [e, List.getD_eq_getElem?_getD, hz] <;> rfl
  have hlt : a < s.heap.objs.size := Heap.lt_size ho
  refine call_min_walk (wpAny_pyIter_dict hsys dat ?_)
  refine ⟨_, _, _, _, _, _, _, rfl, Walks.dictKeys (knd := mixKind X.prog X.w) (A := X.A.in1) (I.ok.hd hc) s.heap.objs.size a (Nat.ne_of_lt hlt) vs ep,
    ⟨⟨_, Heap.get?_push_size _ rfl, rfl, rfl⟩, dat.keep fun b u e => Heap.get?_push_of_some _ e⟩, fun b hb => ?_, hlen, cmp_strs (fun i => ks.getD i Str.empty) hval, fun v h' tk hP hk => ?_⟩
  · show b < (s.heap.push _).objs.size
    rw [Heap.size_push]
    rcases List.mem_cons.mp hb with e | hb
    · rw [e]
      exact Nat.lt_succ_self _
    · have e : b = a := List.mem_singleton.mp hb
      rw [e]
      exact Nat.lt_succ_of_lt hlt
  · obtain ⟨t, rfl⟩ := hval _ v hP
    obtain ⟨b1, b2⟩ := argBest_str (fun i => ks.getD i Str.empty) (vs.length - 1)
    refine ⟨.str _, H, I.kept (t' := tk) fun b u e => hk b u (fun hmem => ?_) (Heap.get?_push_of_some _ e), ⟨t, rfl⟩, q _ ?_ fun j hj => ?_⟩
    · have e1 : b = s.heap.objs.size := List.mem_singleton.mp hmem
      have e2 := Heap.lt_size e
      rw [e1] at e2
      exact absurd e2 (Nat.lt_irrefl _)
    · have hb : argBest (fun i j => decide (sLt (ks.getD i Str.empty) (ks.getD j Str.empty))) (vs.length - 1) < ks.length := by omega
      rw [List.getD_eq_getElem?_getD, List.getElem?_eq_getElem hb]
      exact List.getElem_mem hb
    · obtain ⟨i, hi, e⟩ := List.mem_iff_getElem.mp hj
      have e2 : ks.getD i Str.empty = j := by rw [List.getD_eq_getElem?_getD, List.getElem?_eq_getElem hi, ← e] <;> rfl
      rw [← e2]
      exact b2 i (by omega)

/-! ### a ** b of a great base -/
theorem op_powW : OpR X (binaryOp .Pow) (rI (fun i j => 0 ≤ j ∧ ((Builtin.Int.intBits i : Nat) : Int) * j ≤ 2 ^ 27) fun i j => .int (i ^ j.toNat)) := opI fun _ _ _ _ _ _ _ hc q => PyProof.Rows.pow_int hc.1 hc.2 q

/-! ### xs.count(t), xs a list of texts -/
theorem strEq_cps (a b : Str) : (a.cps.toList == b.cps.toList) = (a == b) := by
  by_cases h : a = b
  · subst h
    rw [beq_self_eq_true, beq_self_eq_true]
  · have h2 : ¬ a.cps.toList = b.cps.toList := fun z => h (str_ext z)
    rw [beq_eq_false_iff_ne.mpr h, beq_eq_false_iff_ne.mpr h2]
def eqS (k : Str) (v : Value) : Bool := match v with
  | .str n _ => n == k
  | _ => false
theorem eqS_gives {k : Str} {t : Tok} : ∀ {us : List Value} {ns : List Str}, StrsAre us ns → ∀ y ∈ us, MeetsSeq.EqGives y (.str k t) (eqS k y)
  | _, _, .nil => fun y hy => by cases hy
  | _, _, .cons n t' h => fun y hy => by
    rcases List.mem_cons.mp hy with e | e
    · rw [e]
      have q := SeqRoads2.EqGives.str n k t' t
      rw [strEq_cps] at q
      exact q
    · exact eqS_gives h y e
theorem eqS_count {k : Str} : ∀ {us : List Value} {ns : List Str}, StrsAre us ns → us.countP (eqS k) = ns.count k
  | _, _, .nil => rfl
  | _, _, .cons n t' h => by
    rw [List.countP_cons, List.count_cons, eqS_count h]
    rfl
theorem mt_countS : MtR X "list.count" (fun x xs H Q => ∃ (p : Addr) (ns : List Str) (k : Str), x = .ref p ∧ xs = [.str k] ∧ SqL X.K H p (ns.map V.str) ∧ Q (.int (ns.count k : Nat)) H) := by
  intro pins s σ H x xs v us Q I rx rxs h
  obtain ⟨p, ns, k, rfl, rfl, hs, q⟩ := h
  cases rx
  obtain ⟨u, rfl, ru⟩ := rxs.one
  obtain ⟨t, rfl⟩ := ru
  obtain ⟨its, rv, ⟨⟨cls, dd, data, sl⟩, n, ho, hc, hdn, hd⟩, hlen⟩ := I.list hs
  simp only at hc hd
  subst hc hd
  have hi := rv.strs
  refine call_meets PySem.F.slot_list_count ⟨_, ho, rfl⟩ PySem.F.entry_list_count (PySem.F.args_list_count_2 _ _)
    (SeqAt.list_countAt p its.toArray n dd sl (.str k t) (eqS k)) ⟨ho, fun y hy => (eqS_gives hi y (by simpa using hy)).at _ _, ?_⟩
  have ec : its.toArray.toList.countP (eqS k) = ns.count k := eqS_count hi
  refine ⟨.int (ns.count k : Nat), H, I.tok _, ⟨s.toks, ?_⟩, q⟩
  show Value.int ((its.toArray.toList.countP (eqS k) : Nat) : Int) s.toks = Value.int ((ns.count k : Nat) : Int) s.toks
  rw [ec]

/-! ### list(t), t a text -/
theorem vals_get : ∀ {xs : List V} {us : List Value}, xs.length = us.length → (∀ (i : Nat) (x : V) (v : Value), xs[i]? = some x → us[i]? = some v → RelV x v) → Vals xs us
  | [], [], _, _ => .nil
  | [], _ :: _, h, _ => by cases h
  | _ :: _, [], h, _ => by cases h
  | x :: xs, u :: us, h, f => .cons (f 0 x u rfl rfl) (vals_get (by simpa using h) fun i y v e1 e2 => f (i + 1) y v (by simpa using e1) (by simpa using e2))
theorem call_listT (hc : X.calm = true) : CallR X (.type "list") (fun xs H Q => ∃ z : Str, xs = [.str z] ∧ z.cps.size ≤ sizeLine ∧ ∀ l, H l = none → Q (.ref l) (upd H l (.lst (z.cps.toList.map fun c => V.str ⟨#[c]⟩)))) := by
  intro pins s σ H xs us Q I r h
  obtain ⟨z, rfl, hz, q⟩ := h
  obtain ⟨u, rfl, rx⟩ := vals1 r
  obtain ⟨t, rfl⟩ := rx
  refine call_list_str (hn := hz) (I.ok.hd hc) z t fun h' tk acc c kp he hi => ?_
  have hv : Vals (z.cps.toList.map fun c => V.str ⟨#[c]⟩) acc.toList := by
    obtain ⟨h1, h2⟩ := hi
    refine vals_get (by rw [List.length_map, Array.length_toList, Array.length_toList, h1]) fun i x v ex ev => ?_
    rw [List.getElem?_map, Array.getElem?_toList] at ex
    rw [Array.getElem?_toList] at ev
    obtain ⟨cc, u, e1, e2⟩ := h2 i v ev
    rw [e1] at ex
    have ex : V.str ⟨#[cc]⟩ = x := Option.some.inj ex
    rw [← ex, e2]
    exact ⟨u, rfl⟩
  exact ⟨.ref s.heap.objs.size, _, I.laid (o := .lst (z.cps.toList.map fun c => V.str ⟨#[c]⟩)) (t' := tk) kp (Nat.le_refl _) ⟨by rw [List.length_map, Array.length_toList]; exact hz, acc.toList, c, hv, he⟩, rfl, q _ (I.hok.fresh (Nat.le_refl _))⟩
end
end AL
set_option Elab.async false
set_option linter.all false
set_option maxRecDepth 100000
set_option maxHeartbeats 4000000
namespace AL
open PySem PySem.Spec PyProof.Rows L2
def keyD : Key → PyData
  | .inl i => .int i
  | .inr x => .str x
mutual
/-- x is the datum d, over tracked lists, tuples, dicts -/
inductive Dat (H : Hp) : V → PyData → Prop
  | non : Dat H .non .none
  | bl (b : Bool) : Dat H (.bl b) (.bool b)
  | int (i : Int) : Dat H (.int i) (.int i)
  | str (x : Str) : Dat H (.str x) (.str x)
  | lst {a : Addr} {xs : List V} {ds : List PyData} : Rd H a (.lst xs) → Dats H xs ds → Dat H (.ref a) (.list ds)
  | tup {a : Addr} {xs : List V} {ds : List PyData} : Rd H a (.tup xs) → Dats H xs ds → Dat H (.ref a) (.tuple ds)
  | dic {a : Addr} {kvs : List (Key × V)} {ds : List PyData} : Rd H a (.dK kvs) → Dats H (kvs.map (·.2)) ds → Dat H (.ref a) (.dict ((kvs.map fun q => keyD q.1).zip ds))
inductive Dats (H : Hp) : List V → List PyData → Prop
  | nil : Dats H [] []
  | cons {x : V} {xs : List V} {d : PyData} {ds : List PyData} : Dat H x d → Dats H xs ds → Dats H (x :: xs) (d :: ds)
end
theorem Dats.len {H : Hp} : ∀ {xs : List V} {ds : List PyData}, Dats H xs ds → xs.length = ds.length
  | _, _, .nil => rfl
  | _, _, .cons _ t => by simp [Dats.len t]
theorem Dats.of {H : Hp} {α : Type} (f : α → V) (g : α → PyData) : ∀ (l : List α), (∀ x ∈ l, Dat H (f x) (g x)) → Dats H (l.map f) (l.map g)
  | [], _ => .nil
  | x :: l, h => .cons (h x List.mem_cons_self) (Dats.of f g l fun y hy => h y (List.mem_cons_of_mem _ hy))
theorem Dats.strs {H : Hp} (l : List Str) : Dats H (l.map V.str) (l.map PyData.str) := Dats.of _ _ l fun x _ => .str x

/-- what is read at a: tracked, no other thing -/
def TrkD (H : Hp) (a : Addr) : Prop := (∃ xs, Rd H a (.lst xs)) ∨ ∃ kvs, Rd H a (.dK kvs)
section
variable {P : Program} {w : World} {H : Hp} {h : Heap}
theorem pairs_keys : ∀ {es : List DictEntry} {vs : List (Key × Value)}, Pairs (mixKind P w) es vs → ReadsAll h (es.map (·.key)) (vs.map fun q => keyD q.1) []
  | _, _, .nil => .nil
  | _, _, .cons (kv := kv) hk hv t => by
    have r : ReadsAll h _ _ [] := pairs_keys t
    refine ReadsAll.cons (as := []) ?_ r
    obtain ⟨k, v⟩ := kv
    rcases keyIs_shape (show keyIs k _ = true from hk) with ⟨i, t, e1, e2⟩ | ⟨x, t, e1, e2⟩
    · have e1 : k = Sum.inl i := e1
      subst e1
      dsimp only
      rw [e2]
      exact .int i t
    · have e1 : k = Sum.inr x := e1
      subst e1
      dsimp only
      rw [e2]
      exact .str x t
theorem pairs_vals : ∀ {es : List DictEntry} {vs : List (Key × Value)}, Pairs (mixKind P w) es vs → es.map (·.val) = vs.map (·.2)
  | _, _, .nil => rfl
  | _, _, .cons hk hv t => by rw [List.map_cons, List.map_cons, hv, pairs_vals t]
theorem kv_keys : ∀ {kvs : List (Key × V)} {vs : List (Key × Value)}, KV kvs vs → (kvs.map fun q => keyD q.1) = vs.map fun q => keyD q.1
  | _, _, .nil => rfl
  | _, _, .cons r t => by rw [List.map_cons, List.map_cons, r.1, kv_keys t]
theorem kv_vals : ∀ {kvs : List (Key × V)} {vs : List (Key × Value)}, KV kvs vs → Vals (kvs.map (·.2)) (vs.map (·.2))
  | _, _, .nil => .nil
  | _, _, .cons r t => .cons r.2 (kv_vals t)
mutual
theorem dat_reads (ok : HOk P w H h) : ∀ {x : V} {d : PyData}, Dat H x d → ∀ {u : Value}, RelV x u → ∃ as, Reads h u d as ∧ ∀ a ∈ as, TrkD H a
  | _, _, .non, u, r => by cases r; exact ⟨[], .none, fun _ z => nomatch z⟩
  | _, _, .bl b, u, r => by cases r; exact ⟨[], .bool b, fun _ z => nomatch z⟩
  | _, _, .int i, u, r => by obtain ⟨t, rfl⟩ := r; exact ⟨[], .int i t, fun _ z => nomatch z⟩
  | _, _, .str x, u, r => by obtain ⟨t, rfl⟩ := r; exact ⟨[], .str x t, fun _ z => nomatch z⟩
  | _, _, .lst ha hd, u, r => by
    cases r
    obtain ⟨z, its, n, rv, e⟩ := Rd.ok ha ok
    obtain ⟨as, ra, ta⟩ := dats_reads ok hd rv
    exact ⟨_ :: as, .list e rfl rfl ra, fun b hb => by
      rcases List.mem_cons.mp hb with q | q
      · rw [q]
        exact .inl ⟨_, ha⟩
      · exact ta b q⟩
  | _, _, .tup ha hd, u, r => by
    cases r
    obtain ⟨z, its, rv, o, e, c, n, dd⟩ := Rd.ok ha ok
    obtain ⟨as, ra, ta⟩ := dats_reads ok hd rv
    exact ⟨as, .tuple e c dd (by simpa using ra), ta⟩
  | _, _, .dic (kvs := kvs) (ds := ds) ha hd, u, r => by
    cases r
    obtain ⟨z, hsys, vs, rel, o, es, ep, e, ex, dd, _, pr, _⟩ := dk_rd ok ha
    obtain ⟨as, ra, ta⟩ := dats_reads ok hd (kv_vals rel)
    have hl : (kvs.map fun q => keyD q.1).length = ds.length := by
      have := Dats.len hd
      simpa using this
    refine ⟨_ :: [] ++ as, .dict e ex.1 dd ?_ ?_, fun b hb => ?_⟩
    · rw [List.map_fst_zip (Nat.le_of_eq hl), kv_keys rel]
      exact pairs_keys pr
    · rw [List.map_snd_zip (Nat.le_of_eq hl.symm), pairs_vals pr]
      exact ra
    · rcases List.mem_cons.mp hb with q | q
      · rw [q]
        exact .inr ⟨_, ha⟩
      · exact ta b q
theorem dats_reads (ok : HOk P w H h) : ∀ {xs : List V} {ds : List PyData}, Dats H xs ds → ∀ {us : List Value}, Vals xs us → ∃ as, ReadsAll h us ds as ∧ ∀ a ∈ as, TrkD H a
  | _, _, .nil, us, r => by cases r; exact ⟨[], .nil, fun _ z => nomatch z⟩
  | _, _, .cons hd ht, us, r => by
    cases r with
    | cons r1 r2 =>
      obtain ⟨as, ra, ta⟩ := dat_reads ok hd r1
      obtain ⟨bs, rb, tb⟩ := dats_reads ok ht r2
      exact ⟨as ++ bs, .cons ra rb, fun b hb => (List.mem_append.mp hb).elim (ta b) (tb b)⟩
end
end
/-- sys.modules is out of reach -/
def SysOk (H : Hp) : Prop := ∃ o φ, H sysModules = some (.frz o (.ext φ))
theorem sys_out {H : Hp} (hs : SysOk H) {a : Addr} (ht : TrkD H a) : a ≠ sysModules := fun e => by
  obtain ⟨o, φ, hs⟩ := hs
  subst e
  rcases ht with ⟨xs, h | ⟨o', h⟩⟩ | ⟨xs, h | ⟨o', h⟩⟩ <;> rw [hs] at h <;> cases h
section
variable {X : Cx}
/-- repr(x), x a list, a tuple, a dict -/
def rRepr : List V → Hp → VK → Prop := fun xs H Q => ∃ (a : Addr) (d : PyData), xs = [.ref a] ∧ SysOk H ∧ Dat H (.ref a) d ∧ d.showable = true ∧ d.depth ≤ 60 ∧ d.shown.length ≤ sizeLine ∧ Q (.str d.shown) H
theorem call_reprD {k : Nat} (hr : Room k X.A) (hgd : X.A.guards = some []) : CallR X (.builtin "repr") rRepr := by
  intro pins s σ H xs us Q I r h
  obtain ⟨a, d, rfl, hs, hd, h1, h2, h3, q⟩ := h
  rw [Vals.ref1 r]
  obtain ⟨as, ra, ta⟩ := dat_reads I.hok hd (u := .ref a) rfl
  refine repr_of_reads' ra h1 (fun _ hm => sys_out hs (ta _ hm) rfl) hgd (by have := hr.un; omega) (fun b o e => e) (fun h' u tk k => ?_) h3
  exact ⟨.str d.shown, H, I.kept (t' := tk) k, ⟨u, rfl⟩, q⟩
end
end AL
set_option Elab.async false
set_option linter.all false
set_option maxRecDepth 100000
set_option maxHeartbeats 4000000
namespace AL
open PySem PySem.Spec PyProof.Rows L2
open GxR (TabB TabG Tabbed)
/-! ### promises that lean on the guards -/
/-- as FnOk, for callers with no repr under way -/
structure FnG (P : Program) (w : World) (K : PySem.W.Frag) (mg : Str → Option Value) (base : Heap) (CX : CXT) (k : Nat) (f : Addr) (fd : FuncData) (ps : List Str) (sp : Sp) : Prop where
  len : ∀ vs H Q E, sp vs H Q E → vs.length = ps.length
  run : ∀ (A : Around) (outer : List Env) (s : Shared) (H : Hp) (args : Args) (us : List Value) (vs : List V) (Q : VK) (E : XK), A.guards = some [] → Room k A → Env0 P w K mg base A outer s H → BindsTo s fd args (ps.zip us) → Vals vs us → sp vs H Q E →
    codeAny (model P w) A (.call (.ref f) args) (CR CX outer P w H s Q E) s
section
variable {P : Program} {w : World} {K : PySem.W.Frag} {mg : Str → Option Value} {base : Heap} {k : Nat} {f : Addr} {fd : FuncData}
theorem fnG_of {CX : CXT} {name qual : Str} {params : Arguments} {body : List Stmt} {scope : Scope} {dV kV doc pm cdv ct oc : Value} {an od : Option Addr}
    {osl : Array (Option Value)} {N ps : List Str} {sp : Sp} (lk : K.lookup f = some ⟨oc, od, .func (PySem.W.fnOf name qual params body scope dV kV doc pm an cdv ct), osl⟩) (hcd : PySem.W.codeIn K cdv qual = true) (S : FnScope N ps scope)
    (len : ∀ vs H Q E, sp vs H Q E → vs.length = ps.length)
    (hbody : ∀ (A : Around) (outer : List Env) (s : Shared) (H : Hp) (vs : List V) (Q : VK) (E : XK), A.guards = some [] → Room k (A.deeper (envOfC qual scope s.heap.objs.size f cdv)) → sp vs H Q E →
      ∃ t, PSs (cxOf CX P w K mg base N qual scope f cdv A outer s H E) body t ∧ t { nx := fun _ H' => Q .non H', rt := Q } (start N vs) H) :
    FnG P w K mg base CX (k + 1) f (PySem.W.fnOf name qual params body scope dV kV doc pm an cdv ct) ps sp := by
  refine ⟨len, fun A outer s H args us vs Q E hgd hr e0 hb r hsp => ?_⟩
  have KX : K.In s.heap := e0.mod.kin.keeps fun b o e => (e0.bs b o e).1
  have lim : s.heap.NoLimit := e0.mod.nolimit.keeps fun b o e => (e0.bs b o e).1
  refine codeAny_call_function hr.depth (KX _ _ lk) rfl S.co S.gen rfl (PySem.W.codeRec_of KX hcd) (hb _ _ _ _ ?_)
  refine wpAny_newFunctionEnv_cells S.kind (fun ⟨n, v⟩ hy => ?_) fun env he s1 x => ?_
  · rcases S.par n (List.of_mem_zip hy).1 with q | q
    · exact .inl q
    · exact .inr ⟨q, PySem.W.cellsFrom_some _ _ _ (.inl q)⟩
  subst he
  refine ⟨lim.keeps x.toInCall.keep, codeAny_func ?_⟩
  obtain ⟨t, ht, hq⟩ := hbody A outer s H vs Q E hgd (hr.deeper _) hsp
  have I : Inv (cxOf CX P w K mg base N qual scope f cdv A outer s H E) [] (start N vs) H s1 := inv_start S hr.hd e0 (len _ _ _ _ hsp) r x
  refine wpAny_mono (ht.run [] s1 (start N vs) H _ I hq) (fun fl s' hs => ?_) fun e s' hs => hs
  cases fl with
  | ret u =>
    obtain ⟨v, σ', H', J, rv, q⟩ := hs
    exact ⟨v, H', J.os, J.bare, J.base, J.hok, rv, q⟩
  | next =>
    obtain ⟨σ', H', J, q⟩ := hs
    exact ⟨V.non, H', J.os, J.bare, J.base, J.hok, rfl, q⟩
  | brk =>
    obtain ⟨_, _, _, q⟩ := hs
    exact False.elim q
  | cont =>
    obtain ⟨_, _, _, q⟩ := hs
    exact False.elim q
/-- a def's body -/
theorem funG_ok {x qual : Str} {params : Arguments} {body : List Stmt} {scope : Scope} {dvs : List V} {kws : List (Str × V)} {N ps : List Str} {sp : Sp} (F : FunD K x qual params body scope dvs kws f fd) (S : FnScope N ps scope) (len : ∀ vs H Q E, sp vs H Q E → vs.length = ps.length)
    (hbody : ∀ (cdv : Value) (A : Around) (outer : List Env) (s : Shared) (H : Hp) (vs : List V) (Q : VK) (E : XK), A.guards = some [] → Room k (A.deeper (envOfC qual scope s.heap.objs.size f cdv)) → sp vs H Q E →
      ∃ t, PSs (cxOf CX0 P w K mg base N qual scope f cdv A outer s H E).nox body t ∧ t { nx := fun _ H' => Q .non H', rt := Q } (start N vs) H) : FnG P w K mg base CX0 (k + 1) f fd ps sp := by
  obtain ⟨oc, od, dV, kV, doc, pm, an, cdv, ct, osl, rfl, lk, hcd, _, _⟩ := F.ex
  refine fnG_of lk hcd S len fun A outer s H vs Q E hgd hr hsp => ?_
  obtain ⟨t, h, q⟩ := hbody cdv A outer s H vs Q E hgd hr hsp
  exact ⟨t, h.nox, q⟩
end
section
variable {X : Cx} {CX : CXT} {k : Nat} {f : Addr} {fd : FuncData} {ps : List Str} {sp : Sp} {dvs : List V} {ds : List Value} {E : XK} {x : Str} {p pos : Pos} {e : Expr} {es : List Expr} {t : TA}
theorem pe_callG (F : FnG X.prog X.w X.K X.mg X.base CX k f fd ps sp) (hgd : X.A.guards = some []) (hr : Room k X.A) (hg : Gl X x) (hm : X.mg x = some (.ref f)) (hk : PySem.W.keepIn X.K (.ref f) = true) (hb : Binds X.K fd ps ds) (hd : Vals dvs ds) (hx : Passes CX X E)
    (ha : PA X (e :: es) t) (hdb : (x == ("__debug__" : Str)) = false := by decide) (he : starEach (e :: es) X.env = (false, eval e X.env) :: starEach es X.env := by rfl) (hpl : (backTo pos (starEach es X.env)).any (·.1) = false := by rfl) :
    PE X (.Call (.Name x p) (e :: es) [] pos) (tCall sp dvs E t) := by
  refine ⟨fun pins s σ H Q I h => ?_⟩
  refine wpAny_Call_Name_kw (ld_glob I hg hm ?_ hdb)
  refine PySem.W.callWith_K (h₀ := X.base) I.ok.mod.kin hk (thn (ha.run pos pins s σ H _ I h) fun us s1 ⟨vs, H1, I1, r, q⟩ => ⟨I1.kIn, ?_⟩) he hpl
  have r2 : Vals (vs ++ dvs) (us ++ ds) := r.append hd
  refine wpAny_call (codeAny_mono (F.run X.A X.stack s1 H1 ⟨us, []⟩ (us ++ ds) (vs ++ dvs) _ E hgd hr I1.env0 (hb s1 us I1.kIn (by rw [← r2.length]; exact F.len _ _ _ _ q)) r2 q) fun r' s' hq => ?_)
  cases r' with
  | error ev => exact hx pins σ H1 s1 ev s' I1 hq
  | ok fl =>
    cases fl with
    | ret u => exact I1.after hq
    | next => exact False.elim hq
    | brk => exact False.elim hq
    | cont => exact False.elim hq
end

/-! ### the end -/
/-- the abstract heap at the law's entry: sys.modules, the tables, the script -/
noncomputable def hp0 (K : PySem.W.Frag) (cs : List (Addr × Addr)) (os oa : Obj) (a : Addr) (xs : List V) : Hp := fun b =>
  if b = sysModules then some (.frz os (.ext fun _ => True)) else
  if b ∈ cs.map (·.2) then some (.tbl #[]) else
  if b = a ∧ K.lookup a = none then some (.frz oa (.lst xs)) else none
section
variable {K : PySem.W.Frag} {cs : List (Addr × Addr)} {os oa : Obj} {a : Addr} {xs : List V}
theorem hp0_sys : hp0 K cs os oa a xs sysModules = some (.frz os (.ext fun _ => True)) := if_pos rfl
theorem hp0_tab {b : Addr} (h1 : b ≠ sysModules) (h2 : b ∈ cs.map (·.2)) : hp0 K cs os oa a xs b = some (.tbl #[]) := (if_neg h1).trans (if_pos h2)
theorem hp0_scr {b : Addr} (h1 : b ≠ sysModules) (h2 : b ∉ cs.map (·.2)) (h3 : b = a ∧ K.lookup a = none) : hp0 K cs os oa a xs b = some (.frz oa (.lst xs)) := (if_neg h1).trans ((if_neg h2).trans (if_pos h3))
theorem hp0_non {b : Addr} (h1 : b ≠ sysModules) (h2 : b ∉ cs.map (·.2)) (h3 : ¬ (b = a ∧ K.lookup a = none)) : hp0 K cs os oa a xs b = none := (if_neg h1).trans ((if_neg h2).trans (if_neg h3))
/-- what stands at b -/
theorem hp0_cases (b : Addr) : (b = sysModules ∧ hp0 K cs os oa a xs b = some (.frz os (.ext fun _ => True))) ∨
    (b ≠ sysModules ∧ b ∈ cs.map (·.2) ∧ hp0 K cs os oa a xs b = some (.tbl #[])) ∨
    (b ≠ sysModules ∧ b ∉ cs.map (·.2) ∧ (b = a ∧ K.lookup a = none) ∧ hp0 K cs os oa a xs b = some (.frz oa (.lst xs))) ∨
    (b ≠ sysModules ∧ b ∉ cs.map (·.2) ∧ ¬ (b = a ∧ K.lookup a = none) ∧ hp0 K cs os oa a xs b = none) := by
  by_cases h1 : b = sysModules
  · exact .inl ⟨h1, by rw [h1]; exact hp0_sys⟩
  by_cases h2 : b ∈ cs.map (·.2)
  · exact .inr (.inl ⟨h1, h2, hp0_tab h1 h2⟩)
  by_cases h3 : b = a ∧ K.lookup a = none
  · exact .inr (.inr (.inl ⟨h1, h2, h3, hp0_scr h1 h2 h3⟩))
  · exact .inr (.inr (.inr ⟨h1, h2, h3, hp0_non h1 h2 h3⟩))
end
theorem law_callG {P : Program} {w : World} {K : PySem.W.Frag} {mg mb : Str → Option Value} {k : Nat} {fa a : Addr} {cs : List (Addr × Addr)} {fd : FuncData} {x : Str} {sp : Sp} {s₁ : Shared} {vs : List Value} {ns : List Int} {osys : Obj}
    (KX : K.In s₁.heap) (hns : s₁.heap.Ns mainGlobals mg) (hb : s₁.heap.Ns builtinsNs mb) (hbb : ∀ y : Str, y ≠ "__name__" → mb y = bootBuiltins y) (hlim : s₁.heap.NoLimit) (hg : s₁.gens = #[])
    (hT : ∀ p ∈ cs, s₁.heap.get? p.2 = some { cls := .none, data := .fields #[] })
    (nT : ∀ p ∈ cs, K.lookup p.2 = none) (C : ∀ p ∈ cs, PySem.W.CodeHd s₁.heap p.1 p.2)
    (hbm : ∃ (m : Addr) (om : Obj), mg "__builtins__" = some (.ref m) ∧ m ≠ builtinsNs ∧ s₁.heap.get? m = some om ∧
      om.cls = .type "module" ∧ om.dict = some builtinsNs ∧ om.data = .plain)
    (hsys : s₁.heap.get? sysModules = some osys) (hsysd : ∃ es ep, osys.data = .dict es ep) (nS : K.lookup sysModules = none)
    (ha : s₁.heap.get? a = some { cls := .type "list", data := .seq vs.toArray }) (hi : IntsAre vs ns) (hl : ns.length ≤ sizeLine) (hr : Room k callerA)
    (F : ∀ base : Heap, K.In base → base.Ns mainGlobals mg → (∀ p ∈ cs, TabB base mg p.1 p.2) → FnG P w K mg base CX0 k fa fd [x] sp)
    (hbind : ∀ (s : Shared) (u : Value), BindsTo s fd ⟨[u], []⟩ [(x, u)])
    (hsp : ∀ H : Hp, (∀ p ∈ cs, H p.2 = some (.tbl #[])) → SysOk H → SqL K H a (ns.map V.int) → sp [.ref a] H (fun v _ => v = .bl true) fun _ _ _ => False) :
    codeAny (model P w) callerA (.call (.ref fa) ⟨[.ref a], []⟩)
      (fun r s' => r = .ok (.ret (.bool true)) ∧ OldK s₁.heap s'.heap ∧ s'.os = s₁.os ∧ AllBare s'.gens) s₁ := by
  obtain ⟨se, sp1, sd⟩ := hsysd
  generalize hoa : ({ cls := .type "list", data := .seq vs.toArray } : Obj) = oa at ha
  -- the places differ
  have tabOf : ∀ b : Addr, b ∈ cs.map (·.2) → s₁.heap.get? b = some { cls := .none, data := .fields #[] } := by
    intro b q
    obtain ⟨p, hp, e⟩ := List.mem_map.mp q
    exact e ▸ hT p hp
  have sysT : sysModules ∉ cs.map (·.2) := fun q => by
    have e := tabOf _ q
    rw [hsys] at e
    injection e with e
    rw [e] at sd
    cases sd
  have sysA : a ≠ sysModules := fun q => by
    rw [q, hsys] at ha
    injection ha with e
    rw [e, ← hoa] at sd
    cases sd
  have tabA : a ∉ cs.map (·.2) := fun q => by
    have e := tabOf _ q
    rw [ha, ← hoa] at e
    injection e with e
    injection e with _ _ e
    cases e
  have tabS : ∀ {b : Addr}, b ∈ cs.map (·.2) → b ≠ sysModules := fun q z => sysT (z ▸ q)
  have rows := vals_ints hi
  have hlen : (ns.map V.int).length ≤ sizeLine := by rw [List.length_map]; exact hl
  generalize hH : hp0 K cs osys oa a (ns.map V.int) = H
  have what : ∀ b, _ := fun b => hH ▸ hp0_cases (K := K) (cs := cs) (os := osys) (oa := oa) (a := a) (xs := ns.map V.int) b
  have hok : HOk P w H s₁.heap := by
    intro b u q
    rcases what b with ⟨e, z⟩ | ⟨_, e, z⟩ | ⟨_, _, e, z⟩ | ⟨_, _, _, z⟩
    · rw [z] at q; cases q
      exact e ▸ ⟨hsys, trivial, ⟨_, hsys⟩, fun _ _ _ _ => trivial⟩
    · rw [z] at q; cases q
      exact tabOf b e
    · rw [z] at q; cases q
      exact e.1 ▸ ⟨ha, hlen, vs, _, rows, hoa ▸ ha⟩
    · rw [z] at q; cases q
  -- what isn't of these kinds stays in the base
  have free : ∀ {b : Addr} {o : Obj}, s₁.heap.get? b = some o → b ≠ sysModules → o ≠ { cls := .none, data := .fields #[] } → o ≠ oa → H b = none := by
    intro b o e h1 h2 h3
    rcases what b with ⟨q, _⟩ | ⟨_, q, _⟩ | ⟨_, _, q, _⟩ | ⟨_, _, _, z⟩
    · exact (h1 q).elim
    · exact (h2 (Option.some.inj (e.symm.trans (tabOf b q)))).elim
    · exact (h3 (Option.some.inj (e.symm.trans (q.1 ▸ ha)))).elim
    · exact z
  have dfree : ∀ {b : Addr} {o : Obj} {es : Array DictEntry} {ep : Nat}, s₁.heap.get? b = some o → o.data = .dict es ep → b ≠ sysModules → H b = none := by
    intro b o es ep e d h1
    refine free e h1 (fun z => ?_) fun z => ?_
    · rw [z] at d; cases d
    · rw [z, ← hoa] at d; cases d
  have nsB : ∀ {b : Addr} {m : Str → Option Value}, b ≠ sysModules → s₁.heap.Ns b m → (hidT s₁.heap H).Ns b m := by
    rintro b m h1 ⟨o, es, ep, e, d, r⟩
    exact ⟨o, es, ep, hidT_get e (dfree e d h1), d, r⟩
  have Kb : K.In (hidT s₁.heap H) := by
    intro b o e
    refine hidT_get (KX b o e) ?_
    rcases what b with ⟨q, _⟩ | ⟨_, q, _⟩ | ⟨_, _, q, _⟩ | ⟨_, _, _, z⟩
    · rw [q, nS] at e; cases e
    · obtain ⟨p, hp, z⟩ := List.mem_map.mp q
      rw [← z, nT p hp] at e; cases e
    · rw [q.1, q.2] at e; cases e
    · exact z
  have M : L2.Mod K mg (hidT s₁.heap H) := ⟨Kb, nsB (by decide) hns, ⟨mb, nsB (by decide) hb, hbb⟩, let ⟨mc, h1, h2⟩ := hlim; ⟨mc, nsB (by decide) h1, h2⟩⟩
  have TB : ∀ p ∈ cs, TabB (hidT s₁.heap H) mg p.1 p.2 := by
    intro p hp
    have tp := hT p hp
    refine ⟨?_, ?_, fun z => ?_⟩
    · obtain ⟨o, us, file, tf, flags, tg, inF, text, tt, e1, r1, r2, r⟩ := C p hp
      refine ⟨o, us, file, tf, flags, tg, inF, text, tt, hidT_get e1 (free e1 (fun z => ?_) (fun z => ?_) fun z => ?_), r1, r2, r⟩
      · rw [z, hsys] at e1; injection e1 with e1
        rw [e1, r2] at sd; cases sd
      · rw [z] at r2; cases r2
        simp at r
      · rw [z, ← hoa] at r2; cases r2
    · obtain ⟨m, om, b1, b2, b3, b4, b5, b6⟩ := hbm
      refine ⟨m, om, b1, b2, fun q => ?_, fun q => ?_, hidT_get b3 (free b3 (fun z => ?_) (fun z => ?_) fun z => ?_), b4, b5, b6⟩
      · obtain ⟨o, es, ep, e, d, _⟩ := hns
        rw [← q, b3] at e; injection e with e
        rw [← e, b6] at d; cases d
      · rw [q, tp] at b3; cases b3; cases b6
      · rw [z, hsys] at b3; injection b3 with b3
        rw [b3, b6] at sd; cases sd
      · rw [z] at b6; cases b6
      · rw [z, ← hoa] at b6; cases b6
    · obtain ⟨o, es, ep, e, d, _⟩ := hns
      rw [z, tp] at e; cases e; cases d
  have E0 : Env0 P w K mg (hidT s₁.heap H) callerA [] s₁ H :=
    ⟨rfl, M, fun _ _ e => of_hidT e, Nat.le_of_eq (hidT_size _ _), trivial, fun b q => absurd q (List.not_mem_nil), hok, .of_eq hg⟩
  have scr : SqL K H a (ns.map V.int) := by
    cases q : K.lookup a with
    | none => exact .inl (.inr ⟨oa, hH ▸ hp0_scr sysA tabA ⟨rfl, q⟩⟩)
    | some o =>
      have e := KX a o q
      rw [ha] at e; injection e with e
      subst e; subst hoa
      exact .inr ⟨_, vs.toArray, _, q, rfl, rfl, rfl, by rw [List.size_toArray, hi.length]; exact hl, by simpa using rows⟩
  have tabs : ∀ p ∈ cs, H p.2 = some (.tbl #[]) := fun p hp => hH ▸ hp0_tab (tabS (List.mem_map.mpr ⟨p, hp, rfl⟩)) (List.mem_map.mpr ⟨p, hp, rfl⟩)
  have sysH : SysOk H := ⟨osys, _, hH ▸ hp0_sys⟩
  have R := (F _ Kb (nsB (by decide) hns) TB).run callerA [] s₁ H ⟨[.ref a], []⟩ [.ref a] [.ref a] _ _ rfl hr E0 (hbind s₁ (.ref a)) (.cons rfl .nil) (hsp H tabs sysH scr)
  refine codeAny_mono R fun r s' h => ?_
  match r, h with
  | .error e, h => exact False.elim h
  | .ok .next, h => exact False.elim h
  | .ok .brk, h => exact False.elim h
  | .ok .cont, h => exact False.elim h
  | .ok (.ret u), h =>
    obtain ⟨v, H', os, bare, un, ok2, r', q⟩ := h
    cases (show v = .bl true from q)
    obtain rfl : u = Value.bool true := r'
    have same : ∀ {b : Addr} {ob o : Obj} {y : HO}, H b = some (.frz ob y) → s₁.heap.get? b = some o → s'.heap.get? b = some o := fun z e => by
      have e1 := (hok _ _ z).1
      rw [e] at e1; injection e1 with e1
      exact e1 ▸ (ok2 _ _ (un.frzs _ _ _ z)).1
    have stay : ∀ b o, b ∉ cs.map (·.2) → s₁.heap.get? b = some o → s'.heap.get? b = some o := by
      intro b o nb e
      rcases what b with ⟨_, z⟩ | ⟨_, q, _⟩ | ⟨_, _, _, z⟩ | ⟨_, _, _, z⟩
      · exact same z e
      · exact (nb q).elim
      · exact same z e
      · exact un.keep b o e z (List.not_mem_nil) (List.not_mem_nil)
    have grown : ∀ p ∈ cs, ∃ more : Array Value, s'.heap.get? p.2 = some { cls := .none, data := .fields more } := fun p hp => by
      obtain ⟨more, z⟩ := un.tbls p.2 #[] (tabs p hp)
      exact ⟨_, ok2 p.2 _ z⟩
    refine ⟨rfl, ⟨fun b o e => ?_, fun b o e => ?_⟩, os, bare⟩
    · by_cases q : b ∈ cs.map (·.2)
      · obtain ⟨p, hp, z⟩ := List.mem_map.mp q
        obtain ⟨more, hm⟩ := grown p hp
        subst z
        have e' := hT p hp
        rw [e] at e'; cases e'
        exact .inr (.inl ⟨((C p hp).tab (hT p hp)).isCodeTable, rfl, #[], more, rfl, by rw [Array.empty_append]; exact hm⟩)
      · exact .inl (stay b o q e)
    · by_cases q : b ∈ cs.map (·.2)
      · obtain ⟨p, hp, z⟩ := List.mem_map.mp q
        subst z
        obtain ⟨more, hm⟩ := grown p hp
        exact ⟨_, hm⟩
      · exact ⟨o, stay b o q e⟩
end AL
set_option Elab.async false
set_option linter.all false
set_option maxRecDepth 100000
set_option maxHeartbeats 4000000
namespace AL
open PySem PySem.Spec PyProof.Rows L2
open GxR (TabB TabG Tabbed)
/-! ### the head's facts, sys.modules among them -/
def sysB (g : Addr → Option Obj) : Bool := match g sysModules with
  | some ⟨_, _, .dict _ _, _⟩ => true
  | _ => false
theorem sysB_ok {g : Addr → Option Obj} (h : sysB g = true) : ∃ o, g sysModules = some o ∧ ∃ es ep, o.data = .dict es ep := by
  unfold sysB at h
  cases q : g sysModules with
  | none => rw [q] at h; cases h
  | some o =>
    obtain ⟨oc, od, dt, osl⟩ := o
    rw [q] at h
    cases dt with
    | dict es ep => exact ⟨_, rfl, es, ep, rfl⟩
    | _ => cases h
def noSys (K : PySem.W.Frag) : Bool := (K.lookup sysModules).isNone
abbrev AlG : Type := He.AlX × Bool
def obsG (n : Nat) (fa : List He.Fa) (fn : List He.DefD) (ts : List He.Tab) (tf : List He.Defn) (g : Addr → Option Obj) : AlG := (He.obsX n fa fn ts tf noSys g, sysB g)
structure SaysG (fa : List He.Fa) (fn : List He.DefD) (ts : List He.Tab) (tf : List He.Defn) (w : World) (h : Heap) : Prop where
  x : ∃ K : PySem.W.Frag, K.In h ∧ He.SaysX fa fn ts tf noSys w h K
  sys : ∃ o, h.get? sysModules = some o ∧ ∃ es ep, o.data = .dict es ep
def hookG (n : Nat) (fa : List He.Fa) (fn : List He.DefD) (ts : List He.Tab) (tf : List He.Defn) : PySem.W.Hook where
  α := AlG
  obs := fun s => obsG n fa fn ts tf s.heap.get?
  val := fun w => (He.valX fn ts w, true)
  says := fun w h => SaysG fa fn ts tf w h
  of := fun _ _ e => ⟨⟨_, He.frT_in, He.saysX_of (congrArg (fun z : AlG => z.1) e)⟩, sysB_ok (congrArg (fun z : AlG => z.2) e)⟩
  keeps := fun w h h' c k => ⟨(He.hookX n fa fn ts tf noSys).keeps w h h' c.x k, let ⟨o, e, d⟩ := c.sys; ⟨o, k _ _ e, d⟩⟩
theorem obsG_eq {n : Nat} {fa : List He.Fa} {fn : List He.DefD} {ts : List He.Tab} {tf : List He.Defn} {g : Addr → Option Obj} {s : Shared} (h : ∀ a, g a = s.heap.get? a) : obsG n fa fn ts tf g = (hookG n fa fn ts tf).obs s := by
  have e : g = s.heap.get? := funext h
  rw [e] <;> rfl
/-! ### the walk -/
/-- what the head must tell of the law's own def -/
structure LawG (l : PySem.W.OpenLaw) (w : World) (K : PySem.W.Frag) (k n : Nat) (x : Str) (mg : Str → Option Value) (fa : Addr) (h : Heap) (fd : FuncData) (cs : List (Addr × Addr)) (sp : Sp) : Prop where
  bare : ∀ p ∈ cs, h.get? p.2 = some { cls := .none, data := .fields #[] }
  out : ∀ p ∈ cs, K.lookup p.2 = none
  hd : ∀ p ∈ cs, PySem.W.CodeHd h p.1 p.2
  nsys : K.lookup sysModules = none
  binds : ∀ (s : Shared) (u : Value), BindsTo s fd ⟨[u], []⟩ [(x, u)]
  holds : ∀ (H : Hp) (a : Addr) (ns : List Int), ns.length ≤ n → (∀ z ∈ ns, Builtin.Int.intBits z ≤ 1048576) → (∀ p ∈ cs, H p.2 = some (.tbl #[])) → SysOk H →
    SqL K H a (ns.map V.int) → sp [.ref a] H (fun v _ => v = .bl true) fun _ _ _ => False
  ok : ∀ base : Heap, K.In base → base.Ns mainGlobals mg → (∀ p ∈ cs, TabB base mg p.1 p.2) → FnG l.prog w K mg base CX0 k fa fd [x] sp
theorem walk_ofG {l : PySem.W.OpenLaw} {n k : Nat} {q : Program} {loose : List Str} {XP : (Str → Option Value) → Heap → Prop} {YP : World → Heap → Prop} {d : DefRec} {x : Str}
    (hn : l.most = some n) (hn2 : n ≤ sizeLine) (hdf : d.params.defaults = []) (hr : Room k callerA)
    (hsys : ∀ (w : World) (h : Heap), YP w h → ∃ o, h.get? sysModules = some o ∧ ∃ es ep, o.data = .dict es ep)
    (F : ∀ (w : World) (mg : Str → Option Value) (fa : Addr) (h : Heap), YP w h → h.Ns mainGlobals mg → mg d.name = some (.ref fa) →
      ∃ (K : PySem.W.Frag) (fd : FuncData) (cs : List (Addr × Addr)) (sp : Sp), K.In h ∧ LawG l w K k n x mg fa h fd cs sp) :
    PySem.W.WalkO q loose XP YP l.row.toRowW d [] (fun f vs => PySem.call f vs) := by
  refine Att.attach_callB hn hdf ?_
  intro w s₀ s₁ mg mb fa o pm cd doc a vs ns G Y _ _ _ hmg hobj hints hlen hbits hg
  obtain ⟨K, fd, cs, sp, KX, L⟩ := F w mg fa _ Y G.T.g hmg
  obtain ⟨osys, hs, hd⟩ := hsys w _ Y
  exact law_callG (osys := osys) KX G.T.g G.T.b G.T.builtins G.T.nolimit hg L.bare L.out L.hd G.T.bmain hs hd L.nsys hobj hints (Nat.le_trans hlen hn2) hr L.ok L.binds
    fun H h1 h2 h3 => L.holds H a ns hlen hbits h1 h2 h3
/-- all facts by place -/
theorem saysG_nosys {fa : List He.Fa} {fn : List He.DefD} {ts : List He.Tab} {tf : List He.Defn} {w : World} {h : Heap} {K : PySem.W.Frag} (c : He.SaysX fa fn ts tf noSys w h K) : K.lookup sysModules = none := Option.isNone_iff_eq_none.mp c.more
end AL
set_option Elab.async false
set_option linter.all false
set_option maxRecDepth 100000
set_option maxHeartbeats 4000000
namespace AL
open PySem PySem.Spec PyProof.Rows L2
open SrtO (Swo Srtd Stb)
/-! ### the order of pairs of texts -/
def lexS (p q : Str × Str) : Bool := if p.1 = q.1 then decide (sLt p.2 q.2) else decide (sLt p.1 q.1)
theorem lexS_iff {p q : Str × Str} : lexS p q = true ↔ sLt p.1 q.1 ∨ (p.1 = q.1 ∧ sLt p.2 q.2) := by
  unfold lexS
  by_cases e : p.1 = q.1
  · rw [if_pos e, decide_eq_true_eq]
    constructor
    · exact fun h => .inr ⟨e, h⟩
    · rintro (h | ⟨_, h⟩)
      · rw [e] at h
        exact (sLt_irrefl _ h).elim
      · exact h
  · rw [if_neg e, decide_eq_true_eq]
    constructor
    · exact .inl
    · rintro (h | ⟨h, _⟩)
      · exact h
      · exact (e h).elim
theorem lexS_no {p q : Str × Str} : lexS p q = false ↔ ¬ (sLt p.1 q.1 ∨ (p.1 = q.1 ∧ sLt p.2 q.2)) := by
  rw [← lexS_iff]
  cases lexS p q <;> simp
theorem swo_lexS {α : Type} (k : α → Str × Str) : Swo fun v u => lexS (k v) (k u) := by
  refine ⟨fun x y h => ?_, fun x y z h1 h2 => ?_⟩
  · have a := lexS_iff.mp h
    refine lexS_no.mpr ?_
    rintro (b | ⟨b, b'⟩)
    · rcases a with a | ⟨a, _⟩
      · exact sLt_asymm a b
      · rw [a] at b
        exact sLt_irrefl _ b
    · rcases a with a | ⟨_, a⟩
      · rw [b] at a
        exact sLt_irrefl _ a
      · exact sLt_asymm a b'
  · have a := lexS_no.mp h1
    have b := lexS_no.mp h2
    refine lexS_no.mpr ?_
    have a1 : ¬ sLt (k y).1 (k x).1 := fun z => a (.inl z)
    have b1 : ¬ sLt (k z).1 (k y).1 := fun w => b (.inl w)
    rintro (c | ⟨c, c'⟩)
    · exact sLt_trans' a1 b1 c
    · rw [c] at b1
      have e : (k y).1 = (k x).1 := sLt_tri b1 a1
      exact sLt_trans' (fun w => a (.inr ⟨e, w⟩)) (fun w => b (.inr ⟨c.trans e.symm, w⟩)) c'
def IsTT (h : Heap) (v : Value) (x y : Str) : Prop := ∃ a o t u n, v = .ref a ∧ h.get? a = some o ∧ o.cls = .type "tuple" ∧ o.data = .seq #[.str x t, .str y u] n
theorem IsTT.keeps {h h' : Heap} {v : Value} {x y : Str} (p : IsTT h v x y) (k : ∀ b o, h.get? b = some o → o.cls = .type "tuple" → h'.get? b = some o) : IsTT h' v x y := by
  obtain ⟨a, o, t, u, n, e, ho, hc, hd⟩ := p
  exact ⟨a, o, t, u, n, e, k _ _ ho hc, hc, hd⟩
theorem firstsT {h : Heap} : ∀ {vs : List Value}, (∀ v ∈ vs, ∃ x y, IsTT h v x y) → ∃ fs : List Value, PySem.W.KatTups h vs fs ∧ fs.length = vs.length ∧ ∀ f ∈ fs, ∃ x t, f = Value.str x t
  | [], _ => ⟨[], PySem.W.KatTups.nil, rfl, fun _ hm => by simp at hm⟩
  | v :: vs, hp => by
    obtain ⟨fs, h1, h2, h3⟩ := firstsT (vs := vs) fun v' hm => hp v' (List.mem_cons_of_mem _ hm)
    obtain ⟨x, y, a, o, t, u, n, rfl, ho, hc, hd⟩ := hp v List.mem_cons_self
    exact ⟨.str x t :: fs, PySem.W.KatTups.cons ho hc hd rfl h1, by rw [List.length_cons, List.length_cons, h2], fun f hm => (List.mem_cons.mp hm).elim (fun e => ⟨x, t, e⟩) (h3 f)⟩
section
variable {prog : Program} {w : World} {A : Around} {E : Value → Shared → Prop} {s : Shared}
theorem tt_cmp {vs : List Value} {k : Value → Str × Str} (hp : ∀ v ∈ vs, IsTT s.heap v (k v).1 (k v).2) : SrtO.Cmp prog w A s (tuples' true) (fun p => p.1 ∈ vs) (SrtO.lt2 fun v u => lexS (k v) (k u)) := by
  intro p q hm hm'
  have h1 := hp _ hm
  have h2 := hp _ hm'
  show wpAny (model prog w) A (keyLt' (tuples' true) p.1 q.1) (fun r s' => s' = s ∧ r = lexS (k p.1) (k q.1)) (fun _ _ => False) s
  generalize k p.1 = P at h1 ⊢
  generalize k q.1 = R at h2 ⊢
  obtain ⟨x, y⟩ := P
  obtain ⟨x', y'⟩ := R
  obtain ⟨a, o, t, u, n, e, ho, hc, hd⟩ := h1
  obtain ⟨a', o', t', u', n', e', ho', hc', hd'⟩ := h2
  dsimp only at hd hd'
  rw [e, e']
  refine PySem.W.kat_lt ho hd ho' hd' (show PySem.W.KatLex prog w A true (decide (2 < 2)) _ [(.str x t, .str x' t'), (.str y u, .str y' u')] 0 s from PySem.W.kat_cons (SeqAt.EqAt.str_str x t x' t' prog w _ _ (PySem.W.kat_go (fun e1 => ?_) fun e1 => ?_)))
  · have ex : x = x' := by simpa using e1
    refine PySem.W.kat_yes (PySem.W.kat_cons (SeqAt.EqAt.str_str y u y' u' prog w _ _ (PySem.W.kat_go (fun e2 => ?_) fun e2 => ?_)))
    · have ey : y = y' := by simpa using e2
      refine PySem.W.kat_yes (PySem.W.kat_nil ⟨rfl, ?_⟩)
      refine (lexS_no.mpr ?_).symm
      rintro (z | ⟨_, z⟩)
      · exact sLt_irrefl _ (show sLt x' x' from ex ▸ z)
      · exact sLt_irrefl _ (show sLt y' y' from ey ▸ z)
    · have e3 : lexS (x, y) (x', y') = decide (sLt y y') := if_pos ex
      exact PySem.W.kat_no (PySem.W.kat_one _ _ (PySem.P.lt_str (show s = s ∧ decide (sLt y y') = lexS (x, y) (x', y') from ⟨rfl, e3.symm⟩)))
  · have ex : ¬ x = x' := by simpa using e1
    have e3 : lexS (x, y) (x', y') = decide (sLt x x') := if_neg ex
    exact PySem.W.kat_no (oneLt_str (show s = s ∧ decide (sLt x x') = lexS (x, y) (x', y') from ⟨rfl, e3.symm⟩))
theorem tt_sortable {a : Addr} {vs : List Value} {k : Value → Str × Str} (h0 : 0 < vs.length) (hp : ∀ v ∈ vs, IsTT s.heap v (k v).1 (k v).2) (ha : ∀ o, s.heap.get? a = some o → o.cls ≠ .type "tuple") : SrtO.SortableO prog w A s a vs fun v u => lexS (k v) (k u) := by
  intro h' keep
  have hp' : ∀ v ∈ vs, IsTT h' v (k v).1 (k v).2 := fun v hm => (hp v hm).keeps fun b o e c => keep b o (fun z => by subst z; exact ha o e c) e
  obtain ⟨fs, h1, h2, h3⟩ := firstsT fun v hm => ⟨_, _, hp' v hm⟩
  refine ⟨tuples' true, fun Q E hq => PySem.W.kat_kind (T := .type "str") h1 (by omega) (fun f hm => ?_) (by rfl) ?_, tt_cmp hp'⟩
  · obtain ⟨x, t, rfl⟩ := h3 f hm
    exact PySem.W.Looks.now
  · have e : (Value.type "str" != Value.type "tuple") = true := by decide +kernel
    rw [e]
    exact hq
theorem sorted_tt {l : Addr} {vs : List Value} {k : Value → Str × Str} {Q : Value → Shared → Prop} (hl : s.heap.IsList l vs.toArray) (hz : vs.length ≤ sizeLine) (hp : ∀ v ∈ vs, IsTT s.heap v (k v).1 (k v).2)
    (h : ∀ (h' : Heap) (d : Addr) (out : List Value), Srtd (fun v u => lexS (k v) (k u)) out → out.Perm vs → (∀ b o, s.heap.get? b = some o → h'.get? b = some o) → s.heap.objs.size ≤ d → (∃ n, h'.get? d = some (seqObj "list" out.toArray n)) →
      Q (.ref d) { s with heap := h' }) : wpAny (model prog w) A (call (.builtin "sorted") [.ref l]) Q E s := by
  refine SrtO.sorted_ord (swo_lexS k) hl hz (fun h2 h₁ a ha kk => ?_) fun out hs hb => h _ _ out hs hb.perm (fun b o e => PyProof.Rows.sortedAll_old e) (Nat.le_succ _) (PyProof.Rows.sortedAll_at s.heap vs out.toArray)
  refine tt_sortable (s := { s with heap := h₁ }) (by omega) (fun v hm => (hp v hm).keeps fun b o e _ => (kk b o e).2) fun o e c => ?_
  have e' : some o = some (seqObj "list" vs.toArray 0) := e.symm.trans ha
  cases e'
  exact absurd (Value.type.inj c) (by decide)
end
section
variable {X : Cx}
/-- sorted(l), l a list of pairs of texts -/
def rSortTT (K : PySem.W.Frag) : List V → Hp → VK → Prop := fun vs H Q => ∃ (a : Addr) (ts : List Addr) (k : Addr → Str × Str), vs = [V.ref a] ∧ SqL K H a (ts.map V.ref) ∧ (∀ t ∈ ts, H t = some (.tup [.str (k t).1, .str (k t).2])) ∧
  ∀ (us : List Addr) (p : Addr), us.Perm ts → us.Pairwise (fun x y => lexS (k y) (k x) = false) → H p = none → Q (.ref p) (upd H p (.lst (us.map V.ref)))
def refOf : Value → Addr
  | .ref a => a
  | _ => 0
theorem cr_sortTT : CallR X (.builtin "sorted") (rSortTT X.K) := by
  intro pins s σ H vs us Q I r h
  obtain ⟨a, ts, k, rfl, hs, hx, q⟩ := h
  obtain ⟨its, rv, hl, hz⟩ := I.list hs
  obtain ⟨u, rfl, ru⟩ := vals1 r
  obtain rfl : u = Value.ref a := ru
  have ei := refs_at rv
  subst ei
  refine sorted_tt (k := fun u => k (refOf u)) hl.isList (by rw [List.length_map] at hz ⊢; exact hz) (fun v hv => ?_) fun h' d out h1 h2 kp hd hn => ?_
  · obtain ⟨t, ht, rfl⟩ := List.mem_map.mp hv
    obtain ⟨_, its2, r2, o, ho, hc, n, hdt⟩ := I.hok _ _ (hx t ht)
    obtain ⟨u1, u2, rfl, ri, rj⟩ := vals2 r2
    obtain ⟨t1, rfl⟩ := ri
    obtain ⟨t2, rfl⟩ := rj
    exact ⟨t, o, t1, t2, n, rfl, ho, hc, hdt⟩
  · have h3 : ∀ u ∈ out, u = Value.ref (refOf u) := fun u hu => by
      obtain ⟨t, _, rfl⟩ := List.mem_map.mp (h2.mem_iff.mp hu)
      rfl
    have eo : out = (out.map refOf).map Value.ref := by
      rw [List.map_map]
      have : out.map (fun u => u) = out.map (Value.ref ∘ refOf) := List.map_congr_left fun u hu => h3 u hu
      simpa using this
    have pm : (out.map refOf).Perm ts := by
      have := h2.map refOf
      rw [List.map_map] at this
      have e : ts.map (refOf ∘ Value.ref) = ts := by
        have e2 : ts.map (refOf ∘ Value.ref) = ts.map (fun t => t) := List.map_congr_left fun t _ => rfl
        simpa using e2
      rwa [e] at this
    obtain ⟨n, hn⟩ := hn
    have vv : Vals ((out.map refOf).map V.ref) out := by
      have go : ∀ l : List Addr, Vals (l.map V.ref) (l.map Value.ref) := fun l => by
        induction l with
        | nil => exact .nil
        | cons a l ih => exact .cons rfl ih
      have := go (out.map refOf)
      rw [← eo] at this
      exact this
    refine ⟨.ref d, upd H d (.lst ((out.map refOf).map V.ref)), I.laid (t' := s.toks) kp hd ⟨?_, out, n, vv, hn⟩, rfl, q _ d pm (List.pairwise_map.mpr h1) (I.hok.fresh hd)⟩
    rw [List.length_map, pm.length_eq]
    rw [List.length_map] at hz
    exact hz
/-- dict(zip(a, b)): two lists of one length, the first of texts -/
def tDictZip (K : PySem.W.Frag) (ta : TA) : TE := fun σ H Q => ta σ H fun vs H1 => ∃ (a b : Addr) (ks : List Str) (ys : List V), vs = [.ref a, .ref b] ∧ SqL K H1 a (ks.map V.str) ∧ SqL K H1 b ys ∧ ks.length = ys.length ∧
  ∀ p, H1 p = none → Q (.ref p) (upd H1 p (.dK (mergeK [] ((ks.map Sum.inr).zip ys))))
theorem kv_zip : ∀ {ks : List Str} {ys : List V} {us : List Value}, Vals ys us → KV ((ks.map (Sum.inr : Str → Key)).zip ys) ((ks.map (Sum.inr : Str → Key)).zip us)
  | [], _, _, _ => .nil
  | _ :: _, [], _, r => by cases r; exact .nil
  | k :: ks, y :: ys, _, r => by
    cases r with
    | cons h t => exact .cons ⟨rfl, h⟩ (kv_zip t)
theorem pe_dictZip {e e2 : Expr} {ta : TA} {p p2 q pos : Pos} (hc : X.calm = true) (hg : Gl X "dict") (hm : X.mg "dict" = none) (hg2 : Gl X "zip") (hm2 : X.mg "zip" = none) (ha : PA X [e, e2] ta)
    (hb : bootBuiltins "dict" = some (.type "dict") := by decide +kernel)
    (he : starEach [.Call (.Name "zip" p2) [e, e2] [] q] X.env = (false, eval (.Call (.Name "zip" p2) [e, e2] [] q) X.env) :: starEach [] X.env := by rfl)
    (hs : starEach [e, e2] X.env = (false, eval e X.env) :: starEach [e2] X.env := by rfl) (hpl : (backTo q (starEach [e2] X.env)).any (·.1) = false := by rfl) :
    PE X (.Call (.Name "dict" p) [.Call (.Name "zip" p2) [e, e2] [] q] [] pos) (tDictZip X.K ta) := by
  refine ⟨fun pins s σ H Q I h => ?_⟩
  refine wpAny_Call_Name_kw (ld_blt I hg hm hb ?_)
  refine PyProof.Rows.callWith_type1 ?_ he (by rfl)
  rw [he]
  show wpAny _ _ (spliced ((false, eval (.Call (.Name "zip" p2) [e, e2] [] q) X.env) :: backTo pos (starEach [] X.env))) _ _ s
  refine Calls.spliced_cons (wpAny_Call_Name_kw (ld_blt I hg2 hm2 boot_zip (PyProof.Rows.callWith_type1 (thn (ha.run q pins s σ H _ I h) fun us s1 ⟨vs, H1, I1, r1, a, b, ks, ys, ex, hqx, hqy, hl, q1⟩ => ?_) hs hpl)))
  subst ex
  obtain ⟨v1, v2, rfl, ra, rb⟩ := vals2 r1
  obtain rfl : v1 = Value.ref a := ra
  obtain rfl : v2 = Value.ref b := rb
  obtain ⟨its, rv, p1, z1⟩ := I1.list hqx
  obtain ⟨its2, rv2, p2', z2⟩ := I1.list hqy
  have la := p1.lt
  have lb := p2'.lt
  refine call_zip_2 p1.isList p2'.isList fun h' hz hTI hTO h1 h2 hsz hk => Calls.spliced_nil ?_
  have I2 : Inv X pins σ H1 { s1 with heap := h' } := I1.kept (t' := s1.toks) hk
  have l1 : its.length = ks.length := by
    have := rv.length
    rw [List.length_map] at this
    exact this.symm
  have l2 : its2.length = ys.length := rv2.length.symm
  rw [List.length_map] at z1
  have lz : ((ks.map (Sum.inr : Str → Key)).zip its2).length = ks.length := by
    rw [List.length_zip, List.length_map]
    omega
  refine PySem.call_dict_pairs (knd := mixKind X.prog X.w) (s := { s1 with heap := h' }) (kvs := (ks.map (Sum.inr : Str → Key)).zip its2) (PySem.PairArg.zip _ _ _ _ _ a b (PySem.W.ktu_apart s1.heap.objs.size a b la lb) its.toArray its2.toArray) (I2.ok.hd hc)
    ⟨hz, hTI, ⟨_, _, hTO⟩, h1, h2, (p1.isList).at fun o e => hk _ o e, (p2'.isList).at fun o e => hk _ o e⟩ ⟨?_, fun i key v hkv => ?_⟩ ?_ fun h'' tk hd'' k2 => ?_
  · rw [lz, List.size_toArray, List.size_toArray]
    omega
  · obtain ⟨e1, e2⟩ := hkv
    rw [List.getElem?_toArray] at e1 e2
    have ik : i < ks.length := by
      have := (List.getElem?_eq_some_iff.mp e1).1
      omega
    have ek : (ks.map V.str)[i]? = some (.str ks[i]) := by rw [List.getElem?_map, List.getElem?_eq_getElem ik]; rfl
    refine ⟨Sum.inr ks[i], ?_, kV_is (k := Sum.inr ks[i]) (vals_get' rv i ek e1)⟩
    rw [List.getElem?_zip_eq_some]
    exact ⟨by rw [List.getElem?_map, List.getElem?_eq_getElem ik]; rfl, e2⟩
  · rw [List.size_toArray, List.size_toArray]
    omega
  · have kp : ∀ c o, s1.heap.get? c = some o → h''.get? c = some o := fun c o e => k2 c o (fun hm => by
      have lt := Heap.lt_size e
      simp only [List.mem_cons, List.not_mem_nil, or_false] at hm
      rcases hm with z | z | z | z <;> rw [z] at lt
      · exact absurd lt (Nat.not_lt_of_le (Nat.le_add_right _ _))
      · exact absurd lt (Nat.not_lt_of_le (Nat.le_add_right _ _))
      · exact absurd lt (Nat.lt_irrefl _)
      · exact absurd lt (Nat.not_lt_of_le (Nat.le_add_right _ _))) (hk c o e)
    have sz : s1.heap.objs.size ≤ h'.objs.size := by omega
    have big : (h'.objs.size == sysModules) = false := beq_eq_false_iff_ne.mpr (Nat.ne_of_gt (Nat.lt_of_lt_of_le I1.big sz))
    have rel : KV (mergeK [] ((ks.map (Sum.inr : Str → Key)).zip ys)) (merged [] ((ks.map (Sum.inr : Str → Key)).zip its2)) := KV.merge (kv_zip rv2) .nil
    have len : (mergeK [] ((ks.map (Sum.inr : Str → Key)).zip ys)).length ≤ sizeLine := by
      refine Nat.le_trans (length_mergeK _ []) ?_
      rw [List.length_nil, Nat.zero_add, List.length_zip, List.length_map]
      omega
    exact ⟨.ref h'.objs.size, _, I1.laid (t' := tk) kp sz (show ObjOk X.prog X.w _ _ _ (.dK _) from ⟨len, big, _, rel, hd''⟩), rfl, q1 _ (I1.hok.fresh sz)⟩
where vals_get' : ∀ {xs : List V} {us : List Value}, Vals xs us → ∀ (i : Nat) {x : V} {u : Value}, xs[i]? = some x → us[i]? = some u → RelV x u
  | _, _, .nil, i, x, u, h, _ => by simp at h
  | _, _, .cons r t, 0, x, u, h, h' => by
    rw [List.getElem?_cons_zero] at h h'
    rw [← Option.some.inj h, ← Option.some.inj h']
    exact r
  | _, _, .cons r t, i + 1, x, u, h, h' => by
    rw [List.getElem?_cons_succ] at h h'
    exact vals_get' t i h h'
end
end AL
set_option Elab.async false
set_option linter.all false
set_option maxRecDepth 100000
set_option maxHeartbeats 4000000
namespace AL
open PySem PySem.Spec PyProof.Rows L2
/-! ### list(zip(a, b)) -/
theorem zip_no_len : typeLookup (.type "zip") "__len__" = pure none := am_miss_of_fast (by decide +kernel)
theorem zip_no_hint : typeLookup (.type "zip") "__length_hint__" = pure none := am_miss_of_fast (by decide +kernel)
/-- a zip over two lists before its turn i; S apart from it -/
structure ZAt (h : Heap) (z TI TO i1 i2 l1 l2 S : Addr) (xs ys : Array Value) (i : Nat) : Prop where
  ti : IsPair h TI (.ref i1) (.ref i2)
  h1 : h.IsListIter i1 l1 i
  h2 : h.IsListIter i2 l2 i
  hl1 : h.IsList l1 xs
  hl2 : h.IsList l2 ys
  to : ∃ o, h.get? TO = some o
  hz : (IsZip h z TI TO .none ∧ ∃ a b, IsPair h TO a b) ∨ ∃ T f oT, IsZipHeld h z TI TO T f ∧ h.get? T = some oT ∧ T ≠ z ∧ T ≠ i1 ∧ T ≠ i2 ∧ T ≠ S
structure ZOff (z TI TO i1 i2 l1 l2 S : Addr) : Prop where
  z : S ≠ z
  TI : S ≠ TI
  TO : S ≠ TO
  i1 : S ≠ i1
  i2 : S ≠ i2
  l1 : S ≠ l1
  l2 : S ≠ l2
theorem ZAt.frame {h h' : Heap} {z TI TO i1 i2 l1 l2 S : Addr} {xs ys : Array Value} {i : Nat} (Z : ZAt h z TI TO i1 i2 l1 l2 S xs ys i) (FO : ZOff z TI TO i1 i2 l1 l2 S) (hk : ∀ b o, b ≠ S → h.get? b = some o → h'.get? b = some o) : ZAt h' z TI TO i1 i2 l1 l2 S xs ys i := by
  refine ⟨hk _ _ (Ne.symm FO.TI) Z.ti, Z.h1.at fun o e => hk _ o (Ne.symm FO.i1) e, Z.h2.at fun o e => hk _ o (Ne.symm FO.i2) e, Z.hl1.at fun o e => hk _ o (Ne.symm FO.l1) e, Z.hl2.at fun o e => hk _ o (Ne.symm FO.l2) e, let ⟨o, e⟩ := Z.to; ⟨o, hk _ _ (Ne.symm FO.TO) e⟩, ?_⟩
  rcases Z.hz with ⟨hz, a, b, hTO⟩ | ⟨T, f, oT, hz, hT, r1, r2, r3, r4⟩
  · exact .inl ⟨hk _ _ (Ne.symm FO.z) hz, a, b, hk _ _ (Ne.symm FO.TO) hTO⟩
  · exact .inr ⟨T, f, oT, hk _ _ (Ne.symm FO.z) hz, hk _ _ r4 hT, r1, r2, r3, r4⟩
/-- what came out: new tuples -/
def ZOut (h : Heap) (z TO i1 i2 S m : Addr) (xs ys : Array Value) (acc : Array Value) : Prop :=
  ∀ (j : Nat) (v : Value), acc[j]? = some v → ∃ a x y, v = .ref a ∧ xs[j]? = some x ∧ ys[j]? = some y ∧ IsPair h a x y ∧ a ≠ z ∧ a ≠ TO ∧ a ≠ i1 ∧ a ≠ i2 ∧ a ≠ S ∧ m ≤ a
theorem ZOut.frame {h h' : Heap} {z TO i1 i2 S m : Addr} {xs ys acc : Array Value} (O : ZOut h z TO i1 i2 S m xs ys acc) (hk : ∀ b o, b ≠ z → b ≠ TO → b ≠ i1 → b ≠ i2 → b ≠ S → h.get? b = some o → h'.get? b = some o) : ZOut h' z TO i1 i2 S m xs ys acc := fun j v e => by
  obtain ⟨a, x, y, e1, e2, e3, e4, n1, n2, n3, n4, n5, n6⟩ := O j v e
  exact ⟨a, x, y, e1, e2, e3, hk _ _ n1 n2 n3 n4 n5 e4, n1, n2, n3, n4, n5, n6⟩
/-- the addresses that came out are different -/
def ZDiff (acc : Array Value) : Prop := ∀ (i j : Nat) (v : Value), acc[i]? = some v → acc[j]? = some v → i = j
section
variable {prog : Program} {w : World} {A : Around} {R : Result → Shared → Prop} {z TI TO i1 i2 l1 l2 : Addr} {xs ys : Array Value}
theorem zip_loop (hh : A.handled = none) (D : ZipApart z TI TO i1 i2 l1 l2) {S m : Addr} (FO : ZOff z TI TO i1 i2 l1 l2 S) (hn : min xs.size ys.size ≤ sizeLine) (res : Value) :
    ∀ (k i : Nat) (s : Shared) (acc : Array Value) (c : Nat), min xs.size ys.size - i = k → i ≤ min xs.size ys.size → ZAt s.heap z TI TO i1 i2 l1 l2 S xs ys i → m ≤ s.heap.objs.size → (∀ v, v ∈ acc.toList → ∃ a, v = .ref a ∧ a < s.heap.objs.size) → ZDiff acc →
    s.heap.get? S = some { cls := .type "list", dict := none, data := .seq acc c, slots := #[] } → acc.size = i → ZOut s.heap z TO i1 i2 S m xs ys acc →
    (∀ h' acc' c', (∀ b o, b ≠ z → b ≠ TO → b ≠ i1 → b ≠ i2 → b ≠ S → s.heap.get? b = some o → h'.get? b = some o) → h'.get? S = some { cls := .type "list", dict := none, data := .seq acc' c', slots := #[] } →
      acc'.size = min xs.size ys.size → ZOut h' z TO i1 i2 S m xs ys acc' → ZDiff acc' → R (.ok (.ret res)) { s with heap := h' }) →
    codeAny (model prog w) A (.builtin "list.extend.loop" ⟨[.ref S, .ref z, res], []⟩) R s := by
  intro k
  induction k with
  | zero =>
    intro i s acc c hk hi Z hm hlt hdf hS hacc O hR
    have hin : i = min xs.size ys.size := by omega
    subst hin
    refine codeAny_builtin F.entry_extend_loop ?_
    rw [Around.under_plainId F.plain_extend_loop _]
    show wpAny _ A.in1 (pyNext (.ref z) >>= _) _ _ s
    have hend : xs[min xs.size ys.size]? = none ∨ ys[min xs.size ys.size]? = none := by
      rcases Nat.le_total xs.size ys.size with h | h
      · exact .inl (Array.getElem?_eq_none (by rw [Nat.min_eq_left h]; exact Nat.le_refl _))
      · exact .inr (Array.getElem?_eq_none (by rw [Nat.min_eq_right h]; exact Nat.le_refl _))
    rcases Z.hz with ⟨hz, a, b, hTO⟩ | ⟨T, f, oT, hz, hT, r1, r2, r3, r4⟩
    · refine wpAny_bind (wpAny_pyNext_zip_end (A := A.in1) hh D hz Z.ti hTO Z.h1 Z.h2 Z.hl1 Z.hl2 hend fun h' hk' => ?_)
      exact wpAny_pure (hR h' acc c (fun b o n1 n2 n3 n4 _ e => hk' b o n1 n2 n3 n4 e) (hk' _ _ FO.z FO.TO FO.i1 FO.i2 hS) hacc (O.frame fun b o n1 n2 n3 n4 _ e => hk' b o n1 n2 n3 n4 e) hdf)
    · refine wpAny_bind (wpAny_pyNext_zip_end_held (A := A.in1) hh D hz hT Z.ti Z.h1 Z.h2 Z.hl1 Z.hl2 hend fun h' hk' => ?_)
      exact wpAny_pure (hR h' acc c (fun b o n1 _ n3 n4 _ e => hk' b o n1 n3 n4 e) (hk' _ _ FO.z FO.i1 FO.i2 hS) hacc (O.frame fun b o n1 _ n3 n4 _ e => hk' b o n1 n3 n4 e) hdf)
  | succ k ih =>
    intro i s acc c hk hi Z hm hlt hdf hS hacc O hR
    have hil : i < min xs.size ys.size := by omega
    have hix : i < xs.size := Nat.lt_of_lt_of_le hil (Nat.min_le_left ..)
    have hiy : i < ys.size := Nat.lt_of_lt_of_le hil (Nat.min_le_right ..)
    have ex := Array.getElem?_eq_getElem hix
    have ey := Array.getElem?_eq_getElem hiy
    have lt : ∀ {c o}, s.heap.get? c = some o → s.heap.objs.size ≠ c := fun e => Nat.ne_of_gt (Heap.lt_size e)
    have n1 : s.heap.objs.size ≠ i1 := let ⟨_, e, _⟩ := Z.h1; lt e
    have n2 : s.heap.objs.size ≠ i2 := let ⟨_, e, _⟩ := Z.h2; lt e
    have nS : s.heap.objs.size ≠ S := lt hS
    refine codeAny_builtin F.entry_extend_loop ?_
    rw [Around.under_plainId F.plain_extend_loop _]
    show wpAny _ A.in1 (pyNext (.ref z) >>= _) _ _ s
    -- one more
    have go : ∀ h', ZAt h' z TI TO i1 i2 l1 l2 S xs ys (i + 1) → IsPair h' s.heap.objs.size xs[i] ys[i] → h'.objs.size = s.heap.objs.size + 1 → s.heap.objs.size ≠ z → s.heap.objs.size ≠ TO →
        (∀ c o, c ≠ z → c ≠ TO → c ≠ i1 → c ≠ i2 → s.heap.get? c = some o → h'.get? c = some o) →
        wpAny (model prog w) A.in1 (updateSeq S (·.push (.ref s.heap.objs.size)) >>= fun _ => again (.builtin "list.extend.loop" ⟨[.ref S, .ref z, res], []⟩)) (fun fin s' => match fin with | .done f => R (.ok f) s' | .again c' => c'.quiet = true ∧ codeAny (model prog w) A c' R s')
          (fun e s' => R (.error e) s') { s with heap := h' } := by
      intro h' Z' pr sz nz nO hk'
      have hS' := hk' _ _ FO.z FO.TO FO.i1 FO.i2 hS
      refine wpAny_bind ?_
      refine wpAny_updateSeq (s := { s with heap := h' }) hS' rfl (wpAny_pure ⟨plainId_quiet F.plain_extend_loop _, ih (i + 1) _ (acc.push (.ref s.heap.objs.size)) _ (by omega) hil (Z'.frame FO fun b o nb e => ?_) ?_ (fun v hv => ?_) ?_ (Heap.get?_update_self _ hS' rfl) (by rw [Array.size_push, hacc]) ?_ fun h'' acc' c' hk'' hS'' ha'' O'' df'' => ?_⟩)
        (by rw [hacc]; omega) (by show (acc.push _).size ≤ sizeLine + 1; rw [Array.size_push, hacc]; omega)
      · exact (Heap.get?_update_other _ _ (Ne.symm nb)).trans e
      · show m ≤ (h'.update S _).objs.size
        rw [Heap.size_update, sz]
        exact Nat.le_succ_of_le hm
      · show ∃ a, v = .ref a ∧ a < (h'.update S _).objs.size
        rw [Heap.size_update, sz]
        rw [Array.toList_push] at hv
        rcases List.mem_append.mp hv with q | q
        · obtain ⟨a, e1, e2⟩ := hlt v q
          exact ⟨a, e1, Nat.lt_succ_of_lt e2⟩
        · exact ⟨_, List.mem_singleton.mp q, Nat.lt_succ_self _⟩
      · intro p q v hp hq
        rw [Array.getElem?_push] at hp hq
        have old : ∀ {p : Nat} {v : Value}, acc[p]? = some v → v ≠ .ref s.heap.objs.size := fun {p v} e z => by
          obtain ⟨a, e1, e2⟩ := hlt v (List.mem_of_getElem? (by rw [Array.getElem?_toList]; exact e))
          rw [z] at e1
          injection e1 with e1
          rw [← e1] at e2
          exact Nat.lt_irrefl _ e2
        by_cases ep : p = acc.size <;> by_cases eq : q = acc.size
        · rw [ep, eq]
        · rw [if_pos ep] at hp
          rw [if_neg eq] at hq
          exact (old hq (Option.some.inj hp).symm).elim
        · rw [if_neg ep] at hp
          rw [if_pos eq] at hq
          exact (old hp (Option.some.inj hq).symm).elim
        · rw [if_neg ep] at hp
          rw [if_neg eq] at hq
          exact hdf p q v hp hq
      · intro j v hj
        rw [Array.getElem?_push] at hj
        by_cases ej : j = acc.size
        · rw [if_pos ej] at hj
          have ei : j = i := ej.trans hacc
          subst ei
          exact ⟨_, _, _, (Option.some.inj hj).symm, ex, ey, (Heap.get?_update_other _ _ (Ne.symm nS)).trans pr, nz, nO, n1, n2, nS, hm⟩
        · rw [if_neg ej] at hj
          exact (O.frame (h' := h'.update S _) fun b o m1 m2 m3 m4 m5 e => (Heap.get?_update_other _ _ (Ne.symm m5)).trans (hk' b o m1 m2 m3 m4 e)) j v hj
      · exact hR h'' acc' c' (fun b o m1 m2 m3 m4 m5 e => hk'' b o m1 m2 m3 m4 m5 ((Heap.get?_update_other _ _ (Ne.symm m5)).trans (hk' b o m1 m2 m3 m4 e))) hS'' ha'' O'' df''
    rcases Z.hz with ⟨hz, a, b, hTO⟩ | ⟨T, f, oT, hz, hT, r1, r2, r3, r4⟩
    · refine wpAny_bind (wpAny_pyNext_zip_item D hz Z.ti hTO Z.h1 Z.h2 Z.hl1 Z.hl2 ex ey fun h' a1 a2 a3 a4 a5 a6 hk' => ?_)
      exact go h' ⟨hk' _ _ D.TIz D.TITO D.TIi1 D.TIi2 Z.ti, a3, a4, Z.hl1.at fun o e => hk' _ o D.l1z D.l1TO D.l1i1 D.l1i2 e, Z.hl2.at fun o e => hk' _ o D.l2z D.l2TO D.l2i1 D.l2i2 e, ⟨_, a2⟩, .inr ⟨_, false, _, a1, a5, lt hz, n1, n2, nS⟩⟩ a5 a6 (lt hz) (lt hTO) hk'
    · have nO : s.heap.objs.size ≠ TO := let ⟨_, e⟩ := Z.to; lt e
      refine wpAny_bind (wpAny_pyNext_zip_item_held D hz hT Z.ti Z.h1 Z.h2 Z.hl1 Z.hl2 ex ey fun h' a1 a3 a4 a5 a6 hk' => ?_)
      exact go h' ⟨hk' _ _ D.TIz D.TIi1 D.TIi2 Z.ti, a3, a4, Z.hl1.at fun o e => hk' _ o D.l1z D.l1i1 D.l1i2 e, Z.hl2.at fun o e => hk' _ o D.l2z D.l2i1 D.l2i2 e, (let ⟨o, e⟩ := Z.to; ⟨o, hk' _ _ D.TOz D.TOi1 D.TOi2 e⟩), .inr ⟨T, true, oT, a1, hk' _ _ r1 r2 r3 hT, r1, r2, r3, r4⟩⟩ a5 a6 (lt hz) nO fun c o m1 _ m3 m4 e => hk' c o m1 m3 m4 e
theorem zip_extend {s : Shared} (hh : A.handled = none) (D : ZipApart z TI TO i1 i2 l1 l2) {S m : Addr} (FO : ZOff z TI TO i1 i2 l1 l2 S) (hn : min xs.size ys.size ≤ sizeLine) (res : Value) (c₀ : Nat)
    (hz0 : IsZip s.heap z TI TO .none) (Z : ZAt s.heap z TI TO i1 i2 l1 l2 S xs ys 0) (hm : m ≤ s.heap.objs.size) (hS : s.heap.get? S = some { cls := .type "list", data := .seq #[] c₀ })
    (hR : ∀ h' acc' c', (∀ b o, b ≠ z → b ≠ TO → b ≠ i1 → b ≠ i2 → b ≠ S → s.heap.get? b = some o → h'.get? b = some o) → h'.get? S = some { cls := .type "list", dict := none, data := .seq acc' c', slots := #[] } →
      acc'.size = min xs.size ys.size → ZOut h' z TO i1 i2 S m xs ys acc' → ZDiff acc' → R (.ok (.ret res)) { s with heap := h' }) :
    wpAny (model prog w) A.in1 (Builtin.List.listExtendWith (.ref S) (.ref z) res)
      (fun fin s' => match fin with | .done f => R (.ok f) s' | .again c' => c'.quiet = true ∧ codeAny (model prog w) A c' R s') (fun e s' => R (.error e) s') s := by
  have hT : s.TypeIs (.ref z) "zip" := ⟨_, hz0, rfl⟩
  unfold Builtin.List.listExtendWith
  refine wpAny_bind (wpAny_typeOf hT ?_)
  have h1 : Builtin.List.listSameRef (.ref S) (.ref z) = false := by simp [Builtin.List.listSameRef, FO.z]
  have h2 : (Value.type "zip" == Value.type "list") = false := by decide
  have h3 : (Value.type "zip" == Value.type "tuple") = false := by decide
  simp only [h1, h2, h3, Bool.or_false, Bool.false_eq_true, if_false]
  refine wpAny_bind (wpAny_pyIter_zip hz0 ?_)
  refine wpAny_bind (wpAny_holding ?_)
  unfold Builtin.List.listLengthHint
  refine wpAny_bind (wpAny_specialOf hT zip_no_len ?_)
  show wpAny _ A.in1 (specialOf (Value.ref z) (Str.ofString "__length_hint__") >>= _) _ _ _
  refine wpAny_bind (wpAny_specialOf hT zip_no_hint ?_)
  refine wpAny_pure ?_
  show wpAny _ A.in1 (rule "list.extend.makes-room" >>= fun _ => Builtin.List.listTouch (.ref S) >>= fun _ =>
    again (.builtin "list.extend.loop" ⟨[.ref S, .ref z, res], []⟩)) _ _ _
  refine wpAny_bind (wpAny_rule ?_)
  refine wpAny_bind ?_
  show wpAny _ A.in1 (updateSeq S (·.push .none) >>= fun _ => updateSeq S (·.pop)) _ _ _
  refine wpAny_bind (wpAny_updateSeq hS rfl ?_)
  have hS₂ := Heap.get?_update_self (Obj.mapSeq (·.push Value.none)) hS rfl
  refine wpAny_updateSeq (hz := by seq_fits) hS₂ rfl ?_
  have hS₃ := Heap.get?_update_self (Obj.mapSeq (·.pop)) hS₂ rfl
  have oth : ∀ b o, b ≠ S → s.heap.get? b = some o → ((s.heap.update S (Obj.mapSeq (·.push Value.none))).update S (Obj.mapSeq (·.pop))).get? b = some o :=
    fun b o hb e => (Heap.get?_update_other _ _ (Ne.symm hb)).trans ((Heap.get?_update_other _ _ (Ne.symm hb)).trans e)
  refine wpAny_pure ⟨plainId_quiet F.plain_extend_loop _, zip_loop (m := m) hh D FO hn res _ 0 _ #[] _ rfl (Nat.zero_le _) (Z.frame FO oth) ?_ (fun v hv => ?_) (fun i j v e => ?_) hS₃ rfl (fun j v e => ?_) fun h' acc' c' hk hS' ha O df => ?_⟩
  · show m ≤ ((s.heap.update S _).update S _).objs.size
    rw [Heap.size_update, Heap.size_update]
    exact hm
  · simp at hv
  · simp at e
  · simp at e
  · exact hR h' acc' c' (fun b o n1 n2 n3 n4 n5 e => hk b o n1 n2 n3 n4 n5 (oth b o n5 e)) hS' ha O df
theorem zip_init {s : Shared} (hh : A.handled = none) (D : ZipApart z TI TO i1 i2 l1 l2) {S m : Addr} (FO : ZOff z TI TO i1 i2 l1 l2 S) (hn : min xs.size ys.size ≤ sizeLine)
    (hz0 : IsZip s.heap z TI TO .none) (Z : ZAt s.heap z TI TO i1 i2 l1 l2 S xs ys 0) (hm : m ≤ s.heap.objs.size) (hS : s.heap.get? S = some { cls := .type "list", data := .seq #[] })
    (hR : ∀ h' acc' c', (∀ b o, b ≠ z → b ≠ TO → b ≠ i1 → b ≠ i2 → b ≠ S → s.heap.get? b = some o → h'.get? b = some o) → h'.get? S = some { cls := .type "list", dict := none, data := .seq acc' c', slots := #[] } →
      acc'.size = min xs.size ys.size → ZOut h' z TO i1 i2 S m xs ys acc' → ZDiff acc' → R (.ok (.ret .none)) { s with heap := h' }) :
    wpAny (model prog w) A.in1 (Builtin.«list.__init__» ⟨[.ref S, .ref z], []⟩)
      (fun fin s' => match fin with | .done f => R (.ok f) s' | .again c' => c'.quiet = true ∧ codeAny (model prog w) A c' R s') (fun e s' => R (.error e) s') s := by
  show wpAny _ A.in1 (do let old ← Builtin.List.listItems (.ref S); Builtin.List.listUpdate (.ref S) (fun _ => #[]); letGo old.toList.reverse; Builtin.List.listExtendWith (.ref S) (.ref z) .none) _ _ s
  refine wpAny_bind ?_
  unfold Builtin.List.listItems
  refine wpAny_bind (wpAny_seqItems hS rfl (wpAny_pure ?_))
  show wpAny _ A.in1 (updateSeq S (fun _ => #[]) >>= fun _ => letGo (#[] : Array Value).toList.reverse >>= fun _ => Builtin.List.listExtendWith (.ref S) (.ref z) .none) _ _ s
  refine wpAny_bind (wpAny_updateSeq hS rfl ?_)
  have hS₂ := Heap.get?_update_self (Obj.mapSeq (fun _ => (#[] : Array Value))) hS rfl
  have oth : ∀ b o, b ≠ S → s.heap.get? b = some o → (s.heap.update S (Obj.mapSeq (fun _ => (#[] : Array Value)))).get? b = some o :=
    fun b o hb e => (Heap.get?_update_other _ _ (Ne.symm hb)).trans e
  refine wpAny_bind (wpAny_letGo ?_)
  refine zip_extend (m := m) hh D FO hn .none _ (oth _ _ (Ne.symm FO.z) hz0) (Z.frame FO oth) (by show m ≤ (s.heap.update S _).objs.size; rw [Heap.size_update]; exact hm) hS₂ fun h' acc' c' hk hS' ha O df => ?_
  exact hR h' acc' c' (fun b o n1 n2 n3 n4 n5 e => hk b o n1 n2 n3 n4 n5 (oth b o n5 e)) hS' ha O df
theorem call_list_zip {s : Shared} {E : Value → Shared → Prop} {Q : Value → Shared → Prop} {m : Addr} (hh : A.handled = none) (D : ZipApart z TI TO i1 i2 l1 l2) (FO : ZOff z TI TO i1 i2 l1 l2 s.heap.objs.size) (hn : min xs.size ys.size ≤ sizeLine)
    (hz0 : IsZip s.heap z TI TO .none) (Z : ZAt s.heap z TI TO i1 i2 l1 l2 s.heap.objs.size xs ys 0) (hm : m ≤ s.heap.objs.size)
    (hQ : ∀ h' acc' c', (∀ b o, b ≠ z → b ≠ TO → b ≠ i1 → b ≠ i2 → s.heap.get? b = some o → h'.get? b = some o) → h'.get? s.heap.objs.size = some { cls := .type "list", dict := none, data := .seq acc' c', slots := #[] } →
      acc'.size = min xs.size ys.size → ZOut h' z TO i1 i2 s.heap.objs.size m xs ys acc' → ZDiff acc' → Q (.ref s.heap.objs.size) { s with heap := h' }) :
    wpAny (model prog w) A (call (.type "list") [.ref z]) Q E s := by
  refine callType_codes (Q₁ := fun obj s₁ => obj = .ref s.heap.objs.size ∧ s₁ = { s with heap := s.heap.push { cls := .type "list", data := .seq #[] } }) F.called_list (F.typeCall_list_1 _) F.entry_list_init
    (code_list_new _ ⟨rfl, rfl⟩) fun obj s₁ h₁ => ?_
  obtain ⟨rfl, rfl⟩ := h₁
  have hS : (s.heap.push { cls := .type "list", data := .seq #[] }).get? s.heap.objs.size = some { cls := .type "list", data := .seq #[] } := Heap.get?_push_size _ rfl
  have up : ∀ b o, s.heap.get? b = some o → (s.heap.push { cls := .type "list", data := .seq #[] }).get? b = some o := fun b o e => Heap.get?_push_of_some _ e
  refine ⟨⟨_, hS, rfl⟩, F.args_list_init_2 _ _, zip_init (m := m) (A := A.in1) hh D FO hn (up _ _ hz0) (Z.frame FO fun b o _ e => up b o e) ?_ hS fun h' acc' c' hk hS' ha O df => ?_⟩
  · show m ≤ (s.heap.push _).objs.size
    rw [Heap.size_push]
    exact Nat.le_succ_of_le hm
  · exact ⟨rfl, hQ h' acc' c' (fun b o n1 n2 n3 n4 e => hk b o n1 n2 n3 n4 (Nat.ne_of_lt (Heap.lt_size e)) (up b o e)) hS' ha O df⟩
end
end AL
set_option Elab.async false
set_option linter.all false
set_option maxRecDepth 100000
set_option maxHeartbeats 4000000
namespace AL
open PySem PySem.Spec PyProof.Rows L2
/-! ### many new objects at once -/
def layAll (todo : List (Addr × HO)) (H : Hp) : Hp := todo.foldl (fun H p => upd H p.1 p.2) H
theorem layAll_ne : ∀ {todo : List (Addr × HO)} {H : Hp} {b : Addr}, b ∉ todo.map (·.1) → layAll todo H b = H b
  | [], _, _, _ => rfl
  | p :: todo, H, b, h => by
    rw [List.map_cons] at h
    show layAll todo (upd H p.1 p.2) b = _
    rw [layAll_ne fun z => h (List.mem_cons_of_mem _ z), upd_ne fun z => h (by rw [z]; exact List.mem_cons_self)]
theorem layAll_at : ∀ {todo : List (Addr × HO)} {H : Hp} {p : Addr × HO}, (todo.map (·.1)).Nodup → p ∈ todo → layAll todo H p.1 = some p.2
  | q :: todo, H, p, nd, h => by
    rw [List.map_cons] at nd
    have n2 := List.nodup_cons.mp nd
    show layAll todo (upd H q.1 q.2) p.1 = _
    rcases List.mem_cons.mp h with rfl | h
    · rw [layAll_ne n2.1]
      exact upd_same
    · exact layAll_at n2.2 h
section
variable {X : Cx} {pins : List (Addr × Obj)} {σ : L2.St} {s : Shared} {h' : Heap}
theorem lay_many : ∀ (todo : List (Addr × HO)) (H : Hp) (G : Heap), Inv X pins σ H { s with heap := G } → (∀ b o, G.get? b = some o → h'.get? b = some o) → (todo.map (·.1)).Nodup → (∀ p ∈ todo, G.get? p.1 = none ∧ H p.1 = none) →
    (∀ p ∈ todo, ∀ (H2 : Hp) (G2 : Heap), G2.get? p.1 = h'.get? p.1 → ObjOk X.prog X.w H2 G2 p.1 p.2) → Inv X pins σ (layAll todo H) { s with heap := h' }
  | [], H, G, I, k, _, _, _ => I.kept (t' := s.toks) k
  | p :: todo, H, G, I, k, nd, hn, hok => by
    rw [List.map_cons] at nd
    have n2 := List.nodup_cons.mp nd
    obtain ⟨hp, hH⟩ := hn p List.mem_cons_self
    obtain ⟨G', g1, g2⟩ := restrict h' fun b => (G.get? b).isSome || decide (b = p.1)
    have gp : G'.get? p.1 = h'.get? p.1 := g1 _ (by rw [decide_eq_true rfl, Bool.or_true])
    have kG : ∀ b o, G.get? b = some o → G'.get? b = some o := fun b o e => by
      rw [g1 b (by rw [e]; rfl)]
      exact k b o e
    have kG' : ∀ b o, G'.get? b = some o → h'.get? b = some o := fun b o e => by
      by_cases q : ((G.get? b).isSome || decide (b = p.1)) = true
      · rw [← g1 b q]
        exact e
      · rw [g2 b (by simpa using q)] at e
        cases e
    have I2 := I.laidN (t' := s.toks) (h' := G') (o := p.2) kG hp hH (hok p List.mem_cons_self _ _ gp)
    refine lay_many todo (upd H p.1 p.2) G' I2 kG' n2.2 (fun q hq => ?_) fun q hq => hok q (List.mem_cons_of_mem _ hq)
    have ne : q.1 ≠ p.1 := fun z => n2.1 (List.mem_map.mpr ⟨q, hq, z⟩)
    obtain ⟨a1, a2⟩ := hn q (List.mem_cons_of_mem _ hq)
    exact ⟨g2 _ (by rw [a1, decide_eq_false ne]; rfl), by rw [upd_ne ne]; exact a2⟩
end
section
variable {X : Cx}
/-- list(zip(a, b)), two lists -/
def tListZip (K : PySem.W.Frag) (ta : TA) : TE := fun σ H Q => ta σ H fun vs H1 => ∃ (a b : Addr) (xs ys : List V), vs = [.ref a, .ref b] ∧ SqL K H1 a xs ∧ SqL K H1 b ys ∧
  ∀ (l : Addr) (ts : List Addr) (H2 : Hp), (∀ c o, H1 c = some o → H2 c = some o) → H1 l = none → H2 l = some (.lst (ts.map V.ref)) → Paired (fun t (z : V × V) => H2 t = some (.tup [z.1, z.2])) ts (xs.zip ys) → Q (.ref l) H2
theorem pair_zip {h : Heap} {its its2 : List Value} {xs ys : List V} (r1 : Vals xs its) (r2 : Vals ys its2) {i : Nat} {z : V × V} (e : (xs.zip ys)[i]? = some z) : ∃ u v, its[i]? = some u ∧ its2[i]? = some v ∧ RelV z.1 u ∧ RelV z.2 v := by
  rw [List.getElem?_zip_eq_some] at e
  have go : ∀ {xs : List V} {us : List Value}, Vals xs us → ∀ (i : Nat) {x : V}, xs[i]? = some x → ∃ u, us[i]? = some u ∧ RelV x u := fun {xs us} r => by
    induction r with
    | nil => intro i x e; simp at e
    | cons h _ ih =>
      intro i x e
      cases i with
      | zero =>
        rw [List.getElem?_cons_zero] at e
        exact ⟨_, rfl, Option.some.inj e ▸ h⟩
      | succ i =>
        rw [List.getElem?_cons_succ] at e ⊢
        exact ih i e
  obtain ⟨u, e1, h1⟩ := go r1 i e.1
  obtain ⟨v, e2, h2⟩ := go r2 i e.2
  exact ⟨u, v, e1, e2, h1, h2⟩
theorem paired_of {α β : Type} {F : α → β → Prop} : ∀ {as : List α} {bs : List β}, as.length = bs.length → (∀ (i : Nat) a b, as[i]? = some a → bs[i]? = some b → F a b) → Paired F as bs
  | [], [], _, _ => .nil
  | a :: as, b :: bs, l, h => .cons (h 0 a b rfl rfl) (paired_of (Nat.succ.inj l) fun i a b e1 e2 => h (i + 1) a b (by rw [List.getElem?_cons_succ]; exact e1) (by rw [List.getElem?_cons_succ]; exact e2))
theorem pe_listZip {e e2 : Expr} {ta : TA} {p p2 q pos : Pos} (hc : X.calm = true) (hg : Gl X "list") (hm : X.mg "list" = none) (hg2 : Gl X "zip") (hm2 : X.mg "zip" = none) (ha : PA X [e, e2] ta)
    (hb : bootBuiltins "list" = some (.type "list") := by decide +kernel)
    (he : starEach [.Call (.Name "zip" p2) [e, e2] [] q] X.env = (false, eval (.Call (.Name "zip" p2) [e, e2] [] q) X.env) :: starEach [] X.env := by rfl)
    (hs : starEach [e, e2] X.env = (false, eval e X.env) :: starEach [e2] X.env := by rfl) (hpl : (backTo q (starEach [e2] X.env)).any (·.1) = false := by rfl) :
    PE X (.Call (.Name "list" p) [.Call (.Name "zip" p2) [e, e2] [] q] [] pos) (tListZip X.K ta) := by
  refine ⟨fun pins s σ H Q I h => ?_⟩
  refine wpAny_Call_Name_kw (ld_blt I hg hm hb ?_)
  refine PyProof.Rows.callWith_type1 ?_ he (by rfl)
  rw [he]
  show wpAny _ _ (spliced ((false, eval (.Call (.Name "zip" p2) [e, e2] [] q) X.env) :: backTo pos (starEach [] X.env))) _ _ s
  refine Calls.spliced_cons (wpAny_Call_Name_kw (ld_blt I hg2 hm2 boot_zip (PyProof.Rows.callWith_type1 (thn (ha.run q pins s σ H _ I h) fun us s1 ⟨vs, H1, I1, r1, a, b, xs, ys, ex, hqx, hqy, q1⟩ => ?_) hs hpl)))
  subst ex
  obtain ⟨v1, v2, rfl, ra, rb⟩ := vals2 r1
  obtain rfl : v1 = Value.ref a := ra
  obtain rfl : v2 = Value.ref b := rb
  obtain ⟨its, rv, pl1, z1⟩ := I1.list hqx
  obtain ⟨its2, rv2, pl2, z2⟩ := I1.list hqy
  have la := pl1.lt
  have lb := pl2.lt
  refine call_zip_2 pl1.isList pl2.isList fun h' hz hTI hTO h1 h2 hsz hk => Calls.spliced_nil ?_
  have n5 : s1.heap.objs.size + 5 = h'.objs.size := hsz.symm
  have l1 : its.length = xs.length := rv.length.symm
  have l2 : its2.length = ys.length := rv2.length.symm
  have D := PySem.W.ktu_apart s1.heap.objs.size a b la lb
  have FO : ZOff (s1.heap.objs.size + 4) (s1.heap.objs.size + 2) (s1.heap.objs.size + 3) s1.heap.objs.size (s1.heap.objs.size + 1) a b h'.objs.size := by
    rw [hsz]
    exact ⟨by simp, by simp, by simp, by simp, by simp, Nat.ne_of_gt (Nat.lt_of_lt_of_le la (Nat.le_add_right _ _)), Nat.ne_of_gt (Nat.lt_of_lt_of_le lb (Nat.le_add_right _ _))⟩
  have hn : min its.toArray.size its2.toArray.size ≤ sizeLine := Nat.le_trans (Nat.min_le_left _ _) (by rw [List.size_toArray, l1]; exact z1)
  refine call_list_zip (s := { s1 with heap := h' }) (m := s1.heap.objs.size) (I1.ok.hd hc) D FO hn hz
    ⟨hTI, h1, h2, (pl1.isList).at fun o e => hk _ o e, (pl2.isList).at fun o e => hk _ o e, ⟨_, hTO⟩, .inl ⟨hz, _, _, hTO⟩⟩ (by show s1.heap.objs.size ≤ h'.objs.size; rw [hsz]; exact Nat.le_add_right _ _)
    fun h'' acc c hk2 hS hacc O df => ?_
  have kp : ∀ c o, s1.heap.get? c = some o → h''.get? c = some o := fun c o e => by
    have lt := Heap.lt_size e
    have ne : ∀ k, c ≠ s1.heap.objs.size + k := fun k => Nat.ne_of_lt (Nat.lt_of_lt_of_le lt (Nat.le_add_right _ _))
    exact hk2 c o (ne 4) (ne 3) (ne 0) (ne 1) (hk c o e)
  -- the tuples
  obtain ⟨ts, ets⟩ : ∃ ts : List Addr, ts = acc.toList.map refOf := ⟨_, rfl⟩
  have len : acc.toList.length = (xs.zip ys).length := by
    rw [Array.length_toList, hacc, List.length_zip, List.size_toArray, List.size_toArray, l1, l2]
  have tl : ts.length = (xs.zip ys).length := by rw [ets, List.length_map, len]
  have at_ : ∀ (i : Nat) (t : Addr), ts[i]? = some t → acc[i]? = some (.ref t) := fun i t e => by
    rw [ets, List.getElem?_map] at e
    cases q : acc.toList[i]? with
    | none => rw [q] at e; cases e
    | some v =>
      rw [q] at e
      have e : refOf v = t := Option.some.inj e
      rw [Array.getElem?_toList] at q
      obtain ⟨a', x, y, ev, _⟩ := O i v q
      rw [q, ev]
      rw [ev] at e
      exact congrArg (fun z => some (Value.ref z)) e
  have eo : acc.toList = ts.map Value.ref := by
    refine List.ext_getElem? fun i => ?_
    rw [List.getElem?_map]
    cases q : ts[i]? with
    | none =>
      have : ts.length ≤ i := List.getElem?_eq_none_iff.mp q
      rw [List.getElem?_eq_none_iff.mpr (by rw [len, ← tl]; exact this)]
      rfl
    | some t =>
      rw [Array.getElem?_toList, at_ i t q]
      rfl
  have tnd : ts.Nodup := by
    rw [List.Nodup, List.pairwise_iff_getElem]
    intro i j hi hj ij e
    have := df i j _ (at_ i _ (List.getElem?_eq_getElem hi)) (by rw [e]; exact at_ j _ (List.getElem?_eq_getElem hj))
    omega
  have lS : h'.objs.size ∉ ts := fun hm => by
    obtain ⟨i, li, ei⟩ := List.mem_iff_getElem.mp hm
    obtain ⟨a', x, y, ev, _, _, _, _, _, _, _, nS, _⟩ := O i _ (at_ i _ (by rw [List.getElem?_eq_getElem li, ei]))
    injection ev with ev
    exact nS ev.symm
  have big : ∀ t ∈ ts, s1.heap.objs.size ≤ t := fun t hm => by
    obtain ⟨i, li, ei⟩ := List.mem_iff_getElem.mp hm
    obtain ⟨a', x, y, ev, _, _, _, _, _, _, _, _, hb'⟩ := O i _ (at_ i _ (by rw [List.getElem?_eq_getElem li, ei]))
    injection ev with ev
    rw [ev]
    exact hb'
  obtain ⟨todo, etodo⟩ : ∃ todo : List (Addr × HO), todo = ((ts.zip (xs.zip ys)).map fun p => (p.1, HO.tup [p.2.1, p.2.2])) ++ [(h'.objs.size, HO.lst (ts.map V.ref))] := ⟨_, rfl⟩
  have keys : todo.map (·.1) = ts ++ [h'.objs.size] := by
    rw [etodo, List.map_append, List.map_map]
    show (ts.zip (xs.zip ys)).map (fun p => p.1) ++ _ = _
    rw [List.map_fst_zip (by rw [tl]; exact Nat.le_refl _)]
    rfl
  have nd : (todo.map (·.1)).Nodup := by
    rw [keys]
    exact List.nodup_append.mpr ⟨tnd, by simp, fun x hx y hy z => lS (by rw [← List.mem_singleton.mp hy, ← z]; exact hx)⟩
  have memT : ∀ {p : Addr × HO}, p ∈ todo → p.1 ∈ ts ++ [h'.objs.size] := fun {p} hp => by
    rw [← keys]
    exact List.mem_map.mpr ⟨p, hp, rfl⟩
  have big2 : ∀ {b : Addr}, b ∈ ts ++ [h'.objs.size] → s1.heap.objs.size ≤ b := fun {b} hb => by
    rcases List.mem_append.mp hb with q | q
    · exact big b q
    · rw [List.mem_singleton.mp q, hsz]
      exact Nat.le_add_right _ _
  have I2 : Inv X pins σ (layAll todo H1) { s1 with heap := h'' } := by
    refine lay_many todo H1 s1.heap I1 kp nd (fun p hp => ⟨Heap.get?_none_of_le (big2 (memT hp)), I1.hok.fresh (big2 (memT hp))⟩) fun p hp H2 G2 g => ?_
    rw [etodo] at hp
    rcases List.mem_append.mp hp with z | z
    · obtain ⟨w, hw, ew⟩ := List.mem_map.mp z
      obtain ⟨i, li, ei⟩ := List.mem_iff_getElem.mp hw
      have ei' : (ts.zip (xs.zip ys))[i]? = some w := by rw [List.getElem?_eq_getElem li, ei]
      rw [List.getElem?_zip_eq_some] at ei'
      obtain ⟨u, v, e1, e2, r1', r2'⟩ := pair_zip (h := h'') rv rv2 ei'.2
      obtain ⟨a', x, y, ev, ex', ey', pr, _⟩ := O i _ (at_ i _ ei'.1)
      injection ev with ev
      rw [List.getElem?_toArray] at ex' ey'
      rw [e1] at ex'
      rw [e2] at ey'
      obtain rfl := Option.some.inj ex'
      obtain rfl := Option.some.inj ey'
      rw [← ew] at g ⊢
      refine (show ObjOk X.prog X.w _ G2 w.1 (.tup [w.2.1, w.2.2]) from ⟨by show 2 ≤ sizeLine; decide, [u, v], .cons r1' (.cons r2' .nil), _, g.trans (by rw [ev]; exact pr), rfl, _, rfl⟩)
    · rw [List.mem_singleton.mp z] at g ⊢
      refine (show ObjOk X.prog X.w _ G2 h'.objs.size (.lst (ts.map V.ref)) from ⟨?_, acc.toList, c, ?_, g.trans hS⟩)
      · rw [List.length_map, tl, List.length_zip]
        exact Nat.le_trans (Nat.min_le_left _ _) z1
      · rw [eo]
        have go : ∀ l : List Addr, Vals (l.map V.ref) (l.map Value.ref) := fun l => by
          induction l with
          | nil => exact .nil
          | cons a l ih => exact .cons rfl ih
        exact go ts
  refine ⟨.ref h'.objs.size, _, I2, rfl, q1 _ ts _ (fun c o e => ?_) (I1.hok.fresh (by rw [hsz]; exact Nat.le_add_right _ _)) ?_ (paired_of tl fun i t z e1 e2 => ?_)⟩
  · rw [layAll_ne fun hm => ?_]
    · exact e
    · rw [keys] at hm
      rw [I1.hok.fresh (big2 hm)] at e
      cases e
  · exact layAll_at (p := (h'.objs.size, HO.lst (ts.map V.ref))) nd (by rw [etodo]; exact List.mem_append_right _ List.mem_cons_self)
  · exact layAll_at (p := (t, HO.tup [z.1, z.2])) nd (by
      rw [etodo]
      refine List.mem_append_left _ (List.mem_map.mpr ⟨(t, z), List.mem_of_getElem? (i := i) ?_, rfl⟩)
      rw [List.getElem?_zip_eq_some]
      exact ⟨e1, e2⟩)
end
end AL
set_option Elab.async false
set_option linter.all false
set_option maxRecDepth 100000
set_option maxHeartbeats 4000000
namespace A8
open PySem PySem.Spec PyProof.Rows L2 AL
open GxR (TabB TabG Tabbed)
/-! ### the abstract heap: what stays -/
structure Ext (Ps : List Addr) (H H' : Hp) : Prop where
  kp : ∀ b o, H b = some o → b ∉ Ps → H' b = some o
  tb : ∀ p ∈ Ps, TabG H p → TabG H' p
def Tabs (Ps : List Addr) (H : Hp) : Prop := ∀ p ∈ Ps, TabG H p
section
variable {Ps : List Addr} {H H1 H2 : Hp}
theorem Ext.refl : Ext Ps H H := ⟨fun _ _ h _ => h, fun _ _ h => h⟩
theorem Ext.trans (a : Ext Ps H H1) (b : Ext Ps H1 H2) : Ext Ps H H2 := ⟨fun c o h n => b.kp c o (a.kp c o h n) n, fun p hp h => b.tb p hp (a.tb p hp h)⟩
theorem Ext.tabs (a : Ext Ps H H1) (t : Tabs Ps H) : Tabs Ps H1 := fun p hp => a.tb p hp (t p hp)
/-- a tracked thing that is no table stays -/
theorem Ext.get (a : Ext Ps H H1) (t : Tabs Ps H) {b : Addr} {o : HO} (h : H b = some o) (n : ∀ ps, o ≠ .tbl ps) : H1 b = some o :=
  a.kp b o h fun hp => by
    obtain ⟨ps, e, _⟩ := t b hp
    rw [h] at e
    exact n ps (Option.some.inj e)
theorem Ext.tabbed {P : Addr} (hP : P ∈ Ps) (h : Tabbed P H H1) : Ext Ps H H1 :=
  ⟨fun b o e n => by rw [h.2 b fun z => n (z ▸ hP)]; exact e, fun p hp e => by
    by_cases z : p = P
    · rw [z]; exact h.1
    · obtain ⟨ps, e1, e2⟩ := e
      exact ⟨ps, by rw [h.2 p z]; exact e1, e2⟩⟩
/-- a new thing -/
theorem Ext.new {b : Addr} {o : HO} (h : H b = none) : Ext Ps H (upd H b o) :=
  ⟨fun c u e _ => by rw [upd_ne (ne_of_none e h)]; exact e, fun p _ e => by
    obtain ⟨ps, e1, e2⟩ := e
    exact ⟨ps, by rw [upd_ne (ne_of_none e1 h)]; exact e1, e2⟩⟩
/-- a thing is written that was not there at first -/
theorem Ext.put {b : Addr} {o : HO} (a : Ext Ps H H1) (h : H b = none) (n : b ∉ Ps) : Ext Ps H (upd H1 b o) :=
  ⟨fun c u e z => by rw [upd_ne (ne_of_none e h)]; exact a.kp c u e z, fun p hp e => by
    obtain ⟨ps, e1, e2⟩ := a.tb p hp e
    exact ⟨ps, by rw [upd_ne fun z => n (by rw [← z]; exact hp)]; exact e1, e2⟩⟩
theorem notPs {b : Addr} (t : Tabs Ps H) (h : H b = none) : b ∉ Ps := fun hp => by
  obtain ⟨ps, e, _⟩ := t b hp
  rw [h] at e
  cases e
theorem notPs' {b : Addr} {o : HO} (t : Tabs Ps H) (h : H b = some o) (n : ∀ ps, o ≠ .tbl ps) : b ∉ Ps := fun hp => by
  obtain ⟨ps, e, _⟩ := t b hp
  rw [h] at e
  exact n ps (Option.some.inj e)
theorem tabs_upd {b : Addr} {o : HO} (t : Tabs Ps H) (n : b ∉ Ps) : Tabs Ps (upd H b o) := fun p hp => by
  obtain ⟨ps, e1, e2⟩ := t p hp
  exact ⟨ps, by rw [upd_ne fun z => n (by rw [← z]; exact hp)]; exact e1, e2⟩
end
/-! ### names -/
def NameOk (x : Str) : Prop := 1 ≤ x.cps.size ∧ x.cps.size ≤ 8 ∧ ∀ c ∈ x.cps.toList, 97 ≤ c ∧ c ≤ 122
/-- a def whose code object is known -/
theorem okC {P : Program} {w : World} {K : PySem.W.Frag} {mg : Str → Option Value} {base : Heap} {k : Nat} {f c : Addr} {fd : FuncData} {x qual : Str} {params : Arguments} {body : List Stmt} {scope : Scope} {dvs : List V} {kws : List (Str × V)} {N ps : List Str} {sp : Sp}
    (F : FunD K x qual params body scope dvs kws f fd) (hc : fd.code = .ref c) (S : FnScope N ps scope) (len : ∀ vs H Q E, sp vs H Q E → vs.length = ps.length)
    (hbody : ∀ (A : Around) (outer : List Env) (s : Shared) (H : Hp) (vs : List V) (Q : VK) (E : XK), Room k (A.deeper (envOfC qual scope s.heap.objs.size f (.ref c))) → sp vs H Q E →
      ∃ t, PSs (cxOf CX0 P w K mg base N qual scope f (.ref c) A outer s H E).nox body t ∧ t { nx := fun _ H' => Q .non H', rt := Q } (start N vs) H) : FnOk P w K mg base CX0 (k + 1) f fd ps sp := by
  obtain ⟨oc, od, dV, kV, doc, pm, an, cdv, ct, osl, rfl, lk, hcd, _, _⟩ := F.ex
  obtain rfl : cdv = .ref c := hc
  refine fn_of lk hcd S len fun A outer s H vs Q E hr hsp => ?_
  obtain ⟨t, h, q⟩ := hbody A outer s H vs Q E hr hsp
  exact ⟨t, h.nox, q⟩
theorem code_at {K : PySem.W.Frag} {x qual : Str} {params : Arguments} {body : List Stmt} {scope : Scope} {dvs : List V} {kws : List (Str × V)} {p : He.Defn} {fd : FuncData} (F : FunD K x qual params body scope dvs kws (He.fAd K p) fd) : fd.code = .ref (He.codeOf K p) := by
  obtain ⟨oc, od, dV, kV, doc, pm, an, cdv, ct, osl, rfl, lk, hcd, _, _⟩ := F.ex
  obtain ⟨c, rfl⟩ := He.codeIn_ref hcd
  rw [He.codeOf_eq lk rfl]
/-- a def that may be called by its name -/
structure Cal (P : Program) (w : World) (K : PySem.W.Frag) (mg : Str → Option Value) (base : Heap) (k : Nat) (x : Str) (sp : Sp) : Prop where
  ex : ∃ (f : Addr) (fd : FuncData) (ps : List Str), FnOk P w K mg base CX0 k f fd ps sp ∧ mg x = some (.ref f) ∧ PySem.W.keepIn K (.ref f) = true ∧ Binds K fd ps []
section
variable {X : Cx} {k j : Nat} {x : Str} {sp : Sp} {p pos : Pos} {e : Expr} {es : List Expr} {t : TA}
theorem pe_c (c : Cal X.prog X.w X.K X.mg X.base k x sp) (hr : Room j X.A) (hk : k ≤ j) (hg : Gl X x) (ha : PA X (e :: es) t)
    (hdb : (x == ("__debug__" : Str)) = false := by decide) (he : starEach (e :: es) X.env = (false, eval e X.env) :: starEach es X.env := by rfl) (hpl : (backTo pos (starEach es X.env)).any (·.1) = false := by rfl) :
    PE X (.Call (.Name x p) (e :: es) [] pos) (tCall sp [] E0 t) := by
  obtain ⟨f, fd, ps, F, hm, kp, b⟩ := c.ex
  exact pe_call F (hr.mono hk) hg hm kp b .nil pass0 ha hdb he hpl
end
end A8
set_option Elab.async false
set_option linter.all false
set_option maxRecDepth 100000
set_option maxHeartbeats 4000000
namespace A8
open PySem PySem.Spec PyProof.Rows L2 AL
open GxR (TabB TabG Tabbed)
abbrev PR : Program := PySem.Challenge.pw_asklines_k05_whole_paths_and_sides
def top (i : Nat) : Stmt := PR.main.body.getD i (.Pass ⟨0, 0, 0, 0⟩)
abbrev sIsName : Stmt := top 7
theorem scIsName : FnScope ["value", "letter"] ["value"] (defScope sIsName) := ⟨rfl, rfl, rfl, by decide +kernel, rfl, by decide +kernel, by decide +kernel⟩
def spIsName (Ps : List Addr) : Sp := fun vs H Q _ => ∃ x : Str, vs = [.str x] ∧ NameOk x ∧ Tabs Ps H ∧ ∀ H', Ext Ps H H' → Q (.bl true) H'
theorem lt_one {a b : Nat} : [a] < [b] ↔ a < b := by
  constructor
  · intro h
    cases h with
    | rel h => exact h
    | cons h => cases h
  · exact fun h => .rel h
section
variable {P : Program} {w : World} {K : PySem.W.Frag} {mg : Str → Option Value} {base : Heap} {f c p1 : Addr} {fd : FuncData} {Ps : List Addr}
theorem ok_isName (F : FunD K "is_name" "is_name" (defArgs sIsName) (defBody sIsName) (defScope sIsName) [] [] f fd) (hc : fd.code = .ref c) (TB : TabB base mg c p1) (hp : p1 ∈ Ps)
    (gI : mg "isinstance" = none) (gA : mg "all" = none) (gL : mg "len" = none) (gS : mg "str" = none) {tk : Tok} (gM : mg "MOST_LETTERS" = some (.int 8 tk)) : FnOk P w K mg base CX0 2 f fd ["value"] (spIsName Ps) := by
  refine okC F hc scIsName (fun vs H Q E h => ?_) ?_
  · obtain ⟨x, rfl, _⟩ := h
    rfl
  intro A outer s H vs Q E hr h
  refine ⟨_, pss_one (ps_ret (pe_and (pe_callB call_isi rfl gI (by decide +kernel) (pa_cons (pv 0) (pa_cons (pe_bltn (u := .type "str") (v := .ty "str") rfl gS (by decide +kernel) rfl) pa_nil)))
      (pe_and (pe_chain op_le op_le pe_int (pe_callB call_len_str rfl gL boot_len (pa_cons (pv 0) pa_nil)) (pe_glob (v := .int 8) rfl gM ⟨_, rfl⟩))
        (pe_one (pe_allG (k := 0) (own := [("letter", 1)]) hr rfl scIsName.nd rfl gA TB rfl (gOk_by (N := ["value", "letter"]) (sc := defScope sIsName) (by decide +kernel) rfl (by decide +kernel) rfl) (pi_str (pv 0)) (fun s H C cl code fp A pn => pg_name (i := 1) scIsName.nd rfl (Or.inl rfl))
          (fun s H C cl code fp A pn hr => pe_chain op_le_str op_le_str pe_str (pv 1) pe_str)))))), ?_⟩
  obtain ⟨x, rfl, ⟨n1, n8, nc⟩, ht, hQ⟩ := h
  have hl : x.length = x.cps.size := rfl
  refine ⟨_, rfl, _, _, .type "str", .type "str", true, rfl, .ty "str", .base (.str x), kit_ty (by decide +kernel), true, rfl, ?_⟩
  refine iteT ?_
  refine ⟨_, rfl, x, rfl, by rw [hl, sizeLine_eq]; omega, _, _, rfl, rfl, true, congrArg V.bl (decide_eq_true (by rw [hl]; omega)), ?_⟩
  refine iteT ?_
  refine ⟨_, _, rfl, rfl, true, congrArg V.bl (decide_eq_true (by rw [hl]; omega)), ?_⟩
  refine iteT ?_
  refine ⟨_, rfl, x, rfl, ht _ hp, fun H2 hT => ?_⟩
  have e2 := Ext.tabbed hp hT
  refine ⟨fun i m H' => H' = H2 ∧ i ≤ x.cps.size ∧ m = x.cps.size - i, ⟨_, rfl, Nat.zero_le _, rfl⟩, ⟨?_⟩⟩
  rintro i m H' ⟨rfl, hi, rfl⟩
  by_cases q : i < x.cps.size
  · refine .inr ⟨q, ?_⟩
    rintro v _ ⟨rfl, ch, hc', rfl⟩
    have hm : ch ∈ x.cps.toList := Array.mem_toList_iff.mpr (Array.mem_of_getElem? hc')
    obtain ⟨c1, c2⟩ := nc ch hm
    refine ⟨rfl, _, rfl, _, _, rfl, rfl, true, congrArg (fun z => V.bl (!z)) (decide_eq_false fun z => ?_), ?_⟩
    · exact absurd (lt_one.mp (show [ch] < [97] from z)) (by omega)
    refine iteT ?_
    refine ⟨_, _, rfl, rfl, true, congrArg (fun z => V.bl (!z)) (decide_eq_false fun z => ?_), fun z => Bool.noConfusion z, fun _ => ⟨_, by omega, rfl, by omega, rfl⟩⟩
    exact absurd (lt_one.mp (show [122] < [ch] from z)) (by omega)
  · exact .inl ⟨Nat.le_of_not_lt q, hQ _ e2⟩
end
end A8
set_option Elab.async false
set_option linter.all false
set_option maxRecDepth 100000
set_option maxHeartbeats 4000000
namespace A8
open PySem PySem.Spec PyProof.Rows L2 AL
open GxR (TabB TabG Tabbed)
/-! ### all(.. for x in ..), every element true: by an invariant of the heap -/
section
variable {K : PySem.W.Frag} {a : Addr} {xs : List V} {g : TG} {te : TE} {σ0 : L2.St} {vs : List Nat} {QT QF : Hp → Prop} {H2 : Hp} {o : Obj} {kvs : List (Key × V)} {d : Addr}
theorem all_list (I : Hp → Prop) (h0 : I H2) (hl : ∀ H, I H → SqL K H a xs)
    (hs : ∀ (i : Nat) (x : V) (H : Hp) (Nx : VK), xs[i]? = some x → I H → (∀ H3, I H3 → Nx (.bl true) H3) → g x σ0 H fun σ2 H2 => wipe σ2 vs = σ0 ∧ te σ2 H2 Nx) (he : ∀ H, I H → QT H) :
    ∃ W : Nat → Nat → Hp → Prop, (∃ m, W 0 m H2) ∧ W1 K (Itl K a) g te σ0 vs false QT QF W := by
  refine ⟨fun i m H => I H ∧ i ≤ xs.length ∧ m = xs.length - i, ⟨_, h0, Nat.zero_le _, rfl⟩, ⟨?_⟩⟩
  rintro i m H ⟨hI, hi, rfl⟩
  by_cases q : i < xs.length
  · refine .inr ⟨⟨xs, xs[i], hl H hI, List.getElem?_eq_getElem q⟩, ?_⟩
    rintro x H' ⟨rfl, hx⟩
    exact hs i x _ _ (hx xs (hl _ hI)) hI fun H3 h3 => ⟨true, rfl, fun z => Bool.noConfusion z, fun _ => ⟨_, by omega, h3, q, rfl⟩⟩
  · exact .inl ⟨⟨xs, hl H hI, Nat.le_of_not_lt q⟩, he H hI⟩
theorem all_keys (I : Hp → Prop) (h0 : I H2) (hl : ∀ H, I H → H d = some (.frz o (.dK kvs)))
    (hs : ∀ (i : Nat) (k : Key) (v : V) (H : Hp) (Nx : VK), kvs[i]? = some (k, v) → I H → (∀ H3, I H3 → Nx (.bl true) H3) → g (kV k) σ0 H fun σ2 H2 => wipe σ2 vs = σ0 ∧ te σ2 H2 Nx) (he : ∀ H, I H → QT H) :
    ∃ W : Nat → Nat → Hp → Prop, (∃ m, W 0 m H2) ∧ W1 K (Itk d o kvs) g te σ0 vs false QT QF W := by
  refine ⟨fun i m H => I H ∧ i ≤ kvs.length ∧ m = kvs.length - i, ⟨_, h0, Nat.zero_le _, rfl⟩, ⟨?_⟩⟩
  rintro i m H ⟨hI, hi, rfl⟩
  by_cases q : i < kvs.length
  · refine .inr ⟨⟨hl H hI, q⟩, ?_⟩
    rintro x H' ⟨rfl, k, v, hx, rfl⟩
    exact hs i k v _ _ hx hI fun H3 h3 => ⟨true, rfl, fun z => Bool.noConfusion z, fun _ => ⟨_, by omega, h3, q, rfl⟩⟩
  · exact .inl ⟨⟨hl H hI, Nat.le_of_not_lt q⟩, he H hI⟩
end
section
variable {K : PySem.W.Frag} {g g1 : TG} {te ta : TE} {σ0 : L2.St} {vs0 vs1 : List Nat} {QT QF : Hp → Prop} {H2 : Hp} {o : Obj} {kvs : List (Key × V)} {d : Addr}
/-- all(e for k in d for y in d[k]): the heap stays -/
theorem all_keys2 (h0 : H2 d = some (.frz o (.dK kvs))) (L : Nat → Addr) (xs : Nat → List V) (m : Nat) (hm : ∀ i, (xs i).length < m) (hL : ∀ i k v, kvs[i]? = some (k, v) → SqL K H2 (L i) (xs i))
    (hs : ∀ (i : Nat) (k : Key) (v : V), kvs[i]? = some (k, v) → ∀ R : L2.St → Hp → Prop,
      (∀ σ1, wipe σ1 vs0 = σ0 → (∀ R1 : It → Hp → Prop, (∃ _u : Unit, R1 (Itl K (L i)) H2) → iList K ta σ1 H2 R1) →
        (∀ (j : Nat) (y : V) (Nx : VK), (xs i)[j]? = some y → Nx (.bl true) H2 → g1 y σ1 H2 fun σ2 H3 => wipe σ2 vs1 = σ1 ∧ te σ2 H3 Nx) → R σ1 H2) → g (kV k) σ0 H2 R) (he : QT H2) :
    ∃ W : Nat → Nat → Hp → Prop, (∃ m, W 0 m H2) ∧ W2 K (Itk d o kvs) g (iList K ta) g1 te σ0 vs0 vs1 false QT QF W := by
  refine ⟨fun i n H => H = H2 ∧ i ≤ kvs.length ∧ n = (kvs.length - i) * (m + 1) + m, ⟨_, rfl, Nat.zero_le _, rfl⟩, ⟨?_⟩⟩
  rintro i n H ⟨rfl, hi, rfl⟩
  by_cases q : i < kvs.length
  · refine .inr ⟨⟨h0, q⟩, ?_⟩
    rintro x H' ⟨rfl, k, v, hx, rfl⟩
    have e1 : (kvs.length - i) * (m + 1) = (kvs.length - (i + 1)) * (m + 1) + (m + 1) := by
      have : kvs.length - i = (kvs.length - (i + 1)) + 1 := by omega
      rw [this, Nat.add_mul, Nat.one_mul]
    have hmi := hm i
    refine hs i k v hx _ fun σ1 w1 hi1 hte => ⟨w1, hi1 _ ⟨(), ?_⟩⟩
    have hl := hL i k v hx
    refine ⟨fun j n' H => H = H' ∧ j ≤ (xs i).length ∧ n' = (kvs.length - (i + 1)) * (m + 1) + m + 1 + ((xs i).length - j), ⟨_, ?_, rfl, Nat.zero_le _, rfl⟩, ⟨?_⟩⟩
    · omega
    rintro j n' H hn ⟨rfl, hj, rfl⟩
    by_cases q2 : j < (xs i).length
    · refine .inr ⟨⟨xs i, (xs i)[j], hl, List.getElem?_eq_getElem q2⟩, ?_⟩
      rintro y H3 ⟨rfl, hy⟩
      exact hte j y _ (hy _ hl) ⟨true, rfl, fun z => Bool.noConfusion z, fun _ => ⟨_, by omega, rfl, q2, rfl⟩⟩
    · exact .inl ⟨⟨xs i, hl, Nat.le_of_not_lt q2⟩, (kvs.length - (i + 1)) * (m + 1) + m, by omega, by omega, rfl, q, rfl⟩
  · exact .inl ⟨⟨h0, Nat.le_of_not_lt q⟩, he⟩
end
section
variable {J : It} {n : Nat} {G : Hp → Prop} {Y : Nat → Hp → V → Hp → Prop}
/-- {k: v for x in ..}: Pv by the turn and the heap (the new dict at D within) -/
theorem dc_it (w : Walk J n G Y) {g : TG} {tt : TT} {tk tv : TE} {vs : List Nat} {σ : L2.St} {H1 : Hp} {D : Addr} {Qd : Hp → Prop} (Pv : Nat → Hp → Prop) (h0 : Pv 0 (upd H1 D (.dK []))) (hG : ∀ i H, i ≤ n → Pv i H → G H)
    (hs : ∀ i x H H', i < n → Pv i H → Y i H x H' → g x (wipe σ vs) H' fun σ2 H2 => wipe σ2 vs = wipe σ vs ∧ tt σ2 H2 fun b H3 => if b = true then tk σ2 H3 fun y H4 => tv σ2 H4 fun z H5 => ∃ kvs k, y = kV k ∧ H5 D = some (.dK kvs) ∧
      kvs.length < sizeLine ∧ Pv (i + 1) (upd H5 D (.dK (putK kvs k z))) else Pv (i + 1) H3) (hd : ∀ H, Pv n H → Qd H) :
    ∃ W : Nat → Nat → Hp → Prop, (∃ m, W 0 m (upd H1 D (.dK []))) ∧ ∀ i m H, W i m H → (J.stop i H ∧ Qd H) ∨ (J.go i H ∧ ∃ Nx : Hp → Prop, (∀ H', Nx H' → ∃ m', m' < m ∧ W (i + 1) m' H') ∧
      ∀ x H', J.yld i H x H' → g x (wipe σ vs) H' fun σ2 H2 => wipe σ2 vs = wipe σ vs ∧ tt σ2 H2 fun b H3 => if b = true then tk σ2 H3 fun y H4 => tv σ2 H4 fun z H5 => ∃ kvs k, y = kV k ∧ H5 D = some (.dK kvs) ∧
        kvs.length < sizeLine ∧ Nx (upd H5 D (.dK (putK kvs k z))) else Nx H3) := by
  refine ⟨fun i m H => m + i = n ∧ Pv i H, ⟨n, Nat.add_zero n, h0⟩, ?_⟩
  rintro i m H ⟨e, p⟩
  have q := hG i H (by omega) p
  cases m with
  | zero =>
    obtain rfl : i = n := by omega
    exact .inl ⟨w.stops H q, hd H p⟩
  | succ m => exact .inr ⟨w.goes i H (by omega) q, Pv (i + 1), fun H' p' => ⟨m, Nat.lt_succ_self m, by omega, p'⟩, fun x H' y => hs i x H H' (by omega) p (w.yields i H x H' (by omega) q y)⟩
end
/-- x = e; ..: by what is known of e's value -/
theorem seq_asg {te : TE} {g : TG} {u : TS} {D : Ends} {σ : L2.St} {H : Hp} (R : V → Hp → Prop) (h1 : ∀ Q : VK, (∀ v H1, R v H1 → Q v H1) → te σ H Q) (h2 : ∀ v H1, R v H1 → g v σ H1 (u D)) : tSeq (tAsg te g) u D σ H := h1 _ h2
end A8
set_option Elab.async false
set_option linter.all false
set_option maxRecDepth 100000
set_option maxHeartbeats 4000000
namespace A8
open PySem PySem.Spec PyProof.Rows L2 AL
/-! ### lists of texts -/
theorem flat_strs : ∀ xs : List Str, (xs.map V.str).all flatV = true
  | [] => rfl
  | x :: xs => by
    rw [List.map_cons, List.all_cons, flat_strs xs]
    rfl
theorem inV_strs {x : Str} : ∀ {xs : List Str}, x ∉ xs → inV (.str x) (xs.map V.str) = false
  | [], _ => rfl
  | y :: xs, h => by
    have e : eqV (.str y) (.str x) = false := beq_eq_false_iff_ne.mpr fun z => h (by rw [z]; exact List.mem_cons_self)
    show (eqV (.str y) (.str x) || inV (.str x) (xs.map V.str)) = false
    rw [e, inV_strs fun z => h (List.mem_cons_of_mem _ z)]
    rfl
theorem inV_in {x : Str} : ∀ {xs : List Str}, x ∈ xs → inV (.str x) (xs.map V.str) = true
  | y :: xs, h => by
    show (eqV (.str y) (.str x) || inV (.str x) (xs.map V.str)) = true
    rcases List.mem_cons.mp h with rfl | h
    · have e : eqV (.str x) (.str x) = true := beq_self_eq_true x
      rw [e]
      rfl
    · rw [inV_in h, Bool.or_true]
theorem sortedS_pw : ∀ {l : List Str}, sortedS l = true → l.Pairwise fun a b => ¬ sLt b a
  | [], _ => .nil
  | [a], _ => by simp
  | a :: b :: r, h => by
    have h' : (!ltCps b.cps.toList a.cps.toList && sortedS (b :: r)) = true := h
    rw [Bool.and_eq_true, Bool.not_eq_true'] at h'
    have ih := sortedS_pw h'.2
    have hab : ¬ sLt b a := fun z => by
      rw [ltCps_eq] at h'
      exact absurd z (of_decide_eq_false h'.1)
    refine List.pairwise_cons.mpr ⟨fun c hc => ?_, ih⟩
    rcases List.mem_cons.mp hc with rfl | hc
    · exact hab
    · exact sLt_trans' hab (List.rel_of_pairwise_cons ih hc)
theorem sorted_eq : ∀ {xs ys : List Str}, sortedS ys = true → ys.Nodup → sortedS xs = true → xs.Nodup → (∀ k, k ∈ ys ↔ k ∈ xs) → ys = xs := fun h1 h2 h3 h4 h5 => go (sortedS_pw h1) h2 (sortedS_pw h3) h4 h5
where go : ∀ {xs ys : List Str}, ys.Pairwise (fun a b => ¬ sLt b a) → ys.Nodup → xs.Pairwise (fun a b => ¬ sLt b a) → xs.Nodup → (∀ k, k ∈ ys ↔ k ∈ xs) → ys = xs
  | [], [], _, _, _, _, _ => rfl
  | x :: xs, [], _, _, _, _, e => absurd ((e x).mpr List.mem_cons_self) List.not_mem_nil
  | [], y :: ys, _, _, _, _, e => absurd ((e y).mp List.mem_cons_self) List.not_mem_nil
  | x :: xs, y :: ys, hy, ny, hx, nx, e => by
    have exy : y = x := by
      rcases List.mem_cons.mp ((e y).mp List.mem_cons_self) with h | h
      · exact h
      rcases List.mem_cons.mp ((e x).mpr List.mem_cons_self) with h' | h'
      · exact h'.symm
      · exact sLt_tri (List.rel_of_pairwise_cons hy h') (List.rel_of_pairwise_cons hx h)
    subst exy
    have n1 := List.nodup_cons.mp ny
    have n2 := List.nodup_cons.mp nx
    rw [go (List.Pairwise.of_cons hy) n1.2 (List.Pairwise.of_cons hx) n2.2 fun k => ⟨fun h => ?_, fun h => ?_⟩]
    · rcases List.mem_cons.mp ((e k).mp (List.mem_cons_of_mem _ h)) with z | z
      · exact (n1.1 (by rw [← z]; exact h)).elim
      · exact z
    · rcases List.mem_cons.mp ((e k).mpr (List.mem_cons_of_mem _ h)) with z | z
      · exact (n2.1 (by rw [← z]; exact h)).elim
      · exact z
theorem sortedS_of : ∀ {l : List Str}, l.Pairwise (fun a b => ¬ sLt b a) → sortedS l = true := fun {l} h => sortedS_of_pairwise l (h.imp fun {a b} q => by
  rw [ltCps_eq]
  exact decide_eq_false q)
/-! ### .. as data -/
def Ascii (x : Str) : Prop := ∀ c ∈ x.cps.toList, c < 0x110000
theorem strOk_of {x : Str} (h : Ascii x) : PyData.strOk x = true := by
  unfold PyData.strOk
  rw [Array.all_eq_true_iff_forall_mem]
  exact fun c hc => decide_eq_true (h c (Array.mem_toList_iff.mpr hc))
theorem NameOk.asc {x : Str} (h : NameOk x) : Ascii x := fun c hc => by
  have := h.2.2 c hc
  omega
theorem canLay_strs : ∀ {xs : List Str}, (∀ x ∈ xs, Ascii x) → PyData.canLayAll0 (xs.map PyData.str) = true
  | [], _ => rfl
  | x :: xs, h => by
    show (PyData.strOk x && PyData.canLayAll0 (xs.map PyData.str)) = true
    rw [strOk_of (h x List.mem_cons_self), canLay_strs fun y hy => h y (List.mem_cons_of_mem _ hy)]
    rfl
theorem depth_strs : ∀ xs : List Str, PyData.depthAll (xs.map PyData.str) = 0
  | [] => rfl
  | x :: xs => by
    show max (PyData.depth (.str x)) (PyData.depthAll (xs.map PyData.str)) = 0
    rw [depth_strs xs]
    rfl
theorem shaped_strs {xs : List Str} (h : ∀ x ∈ xs, Ascii x) : SeqAt.shaped (.list (xs.map .str)) = true := by
  have e : PyData.canLay0 (.list (xs.map .str)) = true := canLay_strs h
  have e2 : PyData.depth (.list (xs.map .str)) = 1 := congrArg (· + 1) (depth_strs xs)
  show (PyData.canLay0 (.list (xs.map .str)) && decide (PyData.depth (.list (xs.map .str)) ≤ 64)) = true
  rw [e, e2]
  rfl
end A8
set_option Elab.async false
set_option linter.all false
set_option maxRecDepth 100000
set_option maxHeartbeats 4000000
namespace A8
open PySem PySem.Spec PyProof.Rows L2 AL
open GxR (TabB TabG Tabbed)
/-! ### trees -/
abbrev Row := Str × Addr × List Str
def kvsOf (t : List Row) : List (Key × V) := t.map fun r => (Sum.inr r.1, .ref r.2.1)
def RowsAt (H : Hp) (t : List Row) : Prop := ∀ r ∈ t, H r.2.1 = some (.lst (r.2.2.map V.str))
structure TreeAt (H : Hp) (d : Addr) (t : List Row) : Prop where
  d : Rd H d (.dK (kvsOf t))
  rows : RowsAt H t
structure OkTree (t : List Row) : Prop where
  n1 : 1 ≤ t.length
  n40 : t.length ≤ 40
  names : ∀ r ∈ t, NameOk r.1
  nodup : (t.map (·.1)).Nodup
  nbs : ∀ r ∈ t, ∀ y ∈ r.2.2, ∃ s ∈ t, s.1 = y
  self : ∀ r ∈ t, r.1 ∉ r.2.2
  asc : ∀ r ∈ t, sortedS r.2.2 = true ∧ r.2.2.Nodup
  sym : ∀ r ∈ t, ∀ s ∈ t, s.1 ∈ r.2.2 → r.1 ∈ s.2.2
  ends : (t.map fun r => r.2.2.length).sum + 2 = 2 * t.length
  conn : ∀ S : Str → Prop, (∃ r ∈ t, S r.1) → (∀ r ∈ t, S r.1 → ∀ y ∈ r.2.2, S y) → ∀ r ∈ t, S r.1
section
variable {Ps : List Addr} {H H1 : Hp} {d : Addr} {t : List Row}
theorem Ext.rows (a : Ext Ps H H1) (ht : Tabs Ps H) (h : RowsAt H t) : RowsAt H1 t := fun r hr => a.get ht (h r hr) fun _ z => by cases z
theorem Ext.rd (a : Ext Ps H H1) (ht : Tabs Ps H) {u : HO} (h : Rd H d u) (n : ∀ ps, u ≠ .tbl ps) : Rd H1 d u := by
  rcases h with h | ⟨o, h⟩
  · exact .inl (a.get ht h n)
  · exact .inr ⟨o, a.get ht h fun _ z => by cases z⟩
theorem Ext.tree (a : Ext Ps H H1) (ht : Tabs Ps H) (h : TreeAt H d t) : TreeAt H1 d t := ⟨a.rd ht h.d (fun _ z => HO.noConfusion z), a.rows ht h.rows⟩
/-- row lists are no dicts: the tree's dict may be locked -/
theorem rows_lock {u : HO} (hd : H d = some (.dK (kvsOf t))) (h : RowsAt H t) : RowsAt (upd H d u) t := fun r hr => by
  rw [upd_ne fun z => ?_]
  · exact h r hr
  · have := h r hr
    rw [z, hd] at this
    cases this
theorem valV_row : ∀ {t : List Row} {r : Row}, r ∈ t → (t.map (·.1)).Nodup → valV (kvsOf t) (Sum.inr r.1) = some (.ref r.2.1)
  | a :: t, r, h, nd => by
    rw [List.map_cons, List.nodup_cons] at nd
    rcases List.mem_cons.mp h with rfl | h
    · exact valV_pos rfl
    · have ne : ¬ (Sum.inr a.1 : Key) = Sum.inr r.1 := fun z => nd.1 (by
        injection z with z
        rw [z]
        exact List.mem_map.mpr ⟨r, h, rfl⟩)
      exact (valV_neg (p := (Sum.inr a.1, V.ref a.2.1)) ne).trans (valV_row h nd.2)
theorem OkTree.at_ (ok : OkTree t) {r : Row} (h : r ∈ t) : valV (kvsOf t) (Sum.inr r.1) = some (.ref r.2.1) := valV_row h ok.nodup
theorem OkTree.one (ok : OkTree t) {r s : Row} (h : r ∈ t) (h' : s ∈ t) (e : r.1 = s.1) : r = s := by
  have := ok.nodup
  exact inj_of_nodup this h h' e
where inj_of_nodup : ∀ {t : List Row}, (t.map (·.1)).Nodup → ∀ {r s : Row}, r ∈ t → s ∈ t → r.1 = s.1 → r = s
  | a :: t, nd, r, s, h, h', e => by
    rw [List.map_cons, List.nodup_cons] at nd
    rcases List.mem_cons.mp h with h1 | h1 <;> rcases List.mem_cons.mp h' with h2 | h2
    · rw [h1, h2]
    · exact (nd.1 (by rw [← h1, e]; exact List.mem_map.mpr ⟨s, h2, rfl⟩)).elim
    · exact (nd.1 (by rw [← h2, ← e]; exact List.mem_map.mpr ⟨r, h1, rfl⟩)).elim
    · exact inj_of_nodup nd.2 h1 h2 e
theorem TreeAt.get (T : TreeAt H d t) (ok : OkTree t) {r : Row} (h : r ∈ t) : DGet H d (.str r.1) (some (.ref r.2.1)) := .inl ⟨_, Sum.inr r.1, T.d, rfl, (ok.at_ h).symm⟩
theorem TreeAt.row (T : TreeAt H d t) {r : Row} (h : r ∈ t) (K : PySem.W.Frag) : SqL K H r.2.1 (r.2.2.map V.str) := .inl (.inl (T.rows r h))
theorem kvsOf_len : (kvsOf t).length = t.length := List.length_map _
theorem kvsOf_at {i : Nat} {k : Key} {v : V} (h : (kvsOf t)[i]? = some (k, v)) : ∃ r, t[i]? = some r ∧ r ∈ t ∧ k = Sum.inr r.1 ∧ v = .ref r.2.1 := by
  unfold kvsOf at h
  rw [List.getElem?_map] at h
  cases q : t[i]? with
  | none => rw [q] at h; cases h
  | some r =>
    rw [q] at h
    injection h with h
    injection h with h1 h2
    exact ⟨r, rfl, List.mem_of_getElem? q, h1.symm, h2.symm⟩
theorem OkTree.asciis (ok : OkTree t) {r : Row} (h : r ∈ t) : ∀ y ∈ r.2.2, Ascii y := fun y hy => by
  obtain ⟨s, hs, e⟩ := ok.nbs r h y hy
  rw [← e]
  exact (ok.names s hs).asc
theorem OkTree.deg (ok : OkTree t) {r : Row} (h : r ∈ t) : r.2.2.length ≤ 40 := by
  have sub : r.2.2.length ≤ (t.map (·.1)).length := nodup_sub (ok.asc r h).2 fun y hy => by
    obtain ⟨s, hs, e⟩ := ok.nbs r h y hy
    exact List.mem_map.mpr ⟨s, hs, e⟩
  rw [List.length_map] at sub
  exact Nat.le_trans sub ok.n40
where nodup_sub : ∀ {xs ys : List Str}, xs.Nodup → (∀ y ∈ xs, y ∈ ys) → xs.length ≤ ys.length
  | [], _, _, _ => Nat.zero_le _
  | x :: xs, ys, nd, h => by
    have hx := h x List.mem_cons_self
    have nd' := List.nodup_cons.mp nd
    have l := nodup_sub (xs := xs) (ys := ys.erase x) nd'.2 fun y hy => (List.mem_erase_of_ne fun z => nd'.1 (by rw [← z]; exact hy)).mpr (h y (List.mem_cons_of_mem _ hy))
    rw [List.length_erase_of_mem hx] at l
    have := List.length_pos_of_mem hx
    simp only [List.length_cons]
    omega
end
/-! ### texts compared -/
theorem dpAll_strs {K : PySem.W.Frag} {H : Hp} : ∀ xs : List Str, DpAll K H (xs.map V.str) (xs.map PyData.str)
  | [] => .nil
  | x :: xs => .cons (.str x) (dpAll_strs xs)
theorem eqvAll_strs : ∀ xs : List Str, PyData.eqvAll (xs.map PyData.str) (xs.map PyData.str) = true
  | [] => rfl
  | x :: xs => by
    have e : PyData.eqv (.str x) (.str x) = true := beq_self_eq_true x
    show (PyData.eqv (.str x) (.str x) && PyData.eqvAll (xs.map PyData.str) (xs.map PyData.str)) = true
    rw [e, eqvAll_strs xs]
    rfl
/-! ### is_node -/
abbrev sIsNode : Stmt := top 11
theorem scIsNode : FnScope ["tree", "value"] ["tree", "value"] (defScope sIsNode) := ⟨rfl, rfl, rfl, by decide +kernel, rfl, by decide +kernel, by decide +kernel⟩
def spIsNode : Sp := fun vs H Q _ => ∃ (d : Addr) (x : Str) (kvs : List (Key × V)), vs = [.ref d, .str x] ∧ Rd H d (.dK kvs) ∧ Q (.bl (valV kvs (Sum.inr x)).isSome) H
section
variable {P : Program} {w : World} {K : PySem.W.Frag} {mg : Str → Option Value} {base : Heap} {f c p1 : Addr} {fd : FuncData} {Ps : List Addr}
theorem ok_isNode (F : FunD K "is_node" "is_node" (defArgs sIsNode) (defBody sIsNode) (defScope sIsNode) [] [] f fd) (gI : mg "isinstance" = none) (gS : mg "str" = none) : FnOk P w K mg base CX0 1 f fd ["tree", "value"] spIsNode := by
  refine F.ok scIsNode (fun vs H Q E h => ?_) ?_
  · obtain ⟨d, x, kvs, rfl, _⟩ := h
    rfl
  intro cdv A outer s H vs Q E hr h
  refine ⟨_, PSs.nox (pss_one (ps_ret (pe_and (pe_callB call_isi rfl gI (by decide +kernel) (pa_cons (pv 1) (pa_cons (pe_bltn (u := .type "str") (v := .ty "str") rfl gS (by decide +kernel) rfl) pa_nil)))
      (pe_one (pe_cmp (pc_din (hu_of hr) (pv 1) (pv 0))))))), ?_⟩
  obtain ⟨d, x, kvs, rfl, hd, hQ⟩ := h
  refine ⟨_, rfl, _, _, .type "str", .type "str", true, rfl, .ty "str", .base (.str x), kit_ty (by decide +kernel), true, rfl, iteT ?_⟩
  exact ⟨_, rfl, _, rfl, d, _, rfl, .inl ⟨kvs, Sum.inr x, hd, rfl, rfl⟩, hQ⟩
/-! ### _has_proper_list -/
abbrev sHasList : Stmt := top 9
theorem scHasList : FnScope ["graph", "node", "row", "other"] ["graph", "node"] (defScope sHasList) := ⟨rfl, rfl, rfl, by decide +kernel, rfl, by decide +kernel, by decide +kernel⟩
def spHasList (Ps : List Addr) : Sp := fun vs H Q _ => ∃ (d : Addr) (t : List Row) (r : Row), vs = [.ref d, .str r.1] ∧ TreeAt H d t ∧ OkTree t ∧ r ∈ t ∧ Tabs Ps H ∧ ∀ H', Ext Ps H H' → Q (.bl true) H'
theorem ok_hasList (F : FunD K "_has_proper_list" "_has_proper_list" (defArgs sHasList) (defBody sHasList) (defScope sHasList) [] [] f fd) (hc : fd.code = .ref c) (TB : TabB base mg c p1) (hp : p1 ∈ Ps) (cN : Cal P w K mg base 1 "is_node" spIsNode)
    (gI : mg "isinstance" = none) (gA : mg "all" = none) (gL : mg "list" = none) (gS : mg "sorted" = none) (gT : mg "set" = none) : FnOk P w K mg base CX0 3 f fd ["graph", "node"] (spHasList Ps) := by
  refine okC F hc scHasList (fun vs H Q E h => ?_) ?_
  · obtain ⟨d, t, r, rfl, _⟩ := h
    rfl
  intro A outer s H vs Q E hr h
  refine ⟨_, pss_cons (ps_set (i := 2) scHasList.nd rfl (Or.inl rfl) (pe_dget (hu_of hr) (pv 0) (pv 1) (fun _ _ => rfl)))
    (pss_one (ps_ret (pe_and (pe_callB call_isi rfl gI (by decide +kernel) (pa_cons (pv 2) (pa_cons (pe_bltn (u := .type "list") (v := .ty "list") rfl gL (by decide +kernel) rfl) pa_nil)))
      (pe_and (pe_allG (k := 1) (own := [("other", 3)]) hr rfl scHasList.nd rfl gA TB rfl (gOk_by (N := ["graph", "node", "row", "other"]) (sc := defScope sHasList) (by decide +kernel) rfl (by decide +kernel) rfl) (pi_list (pv 2)) (fun s H C cl code fp A pn => pg_name (i := 3) scHasList.nd rfl (Or.inl rfl))
          (fun s H C cl code fp A pn hr => pe_c cN hr (by decide) rfl (pa_cons (pv 0) (pa_cons (pv 3) pa_nil))))
        (pe_and (pe_cmpR op_notIn_seq (pv 1) (pv 2) rfl)
          (pe_one (pe_cmpR (op_eqD hr.units) (pv 2) (pe_sortSet rfl rfl gS rfl gT (pv 2)) (nomark _)))))))), ?_⟩
  obtain ⟨d, t, r, rfl, T, ok, hr', ht, hQ⟩ := h
  refine ⟨_, rfl, _, rfl, d, _, rfl, T.get ok hr', ?_⟩
  refine ⟨_, rfl, _, _, .type "list", .type "list", true, rfl, .ty "list", .base (.lst (T.rows r hr')), kit_ty (by decide +kernel), true, rfl, iteT ?_⟩
  refine ⟨_, rfl, r.2.1, rfl, ⟨_, T.row hr' K⟩, ht _ hp, fun H2 hT => ?_⟩
  have e2 := Ext.tabbed hp hT
  have T2 : TreeAt H2 d t := e2.tree ht T
  refine all_list (I := fun H' => H' = H2) rfl (fun _ z => z ▸ T2.row hr' K) (fun i x H3 Nx hx e hN => ?_) fun H3 e => ?_
  · subst e
    rw [List.getElem?_map] at hx
    cases q : r.2.2[i]? with
    | none => rw [q] at hx; cases hx
    | some y =>
      rw [q] at hx
      cases hx
      obtain ⟨s', hs', es⟩ := ok.nbs r hr' y (List.mem_of_getElem? q)
      refine ⟨rfl, _, rfl, _, rfl, d, y, kvsOf t, rfl, T2.d, ?_⟩
      rw [← es, ok.at_ hs']
      exact hN _ rfl
  · subst e
    refine ⟨true, rfl, iteT ?_⟩
    refine ⟨_, rfl, _, rfl, r.2.1, _, rfl, .inl (T2.row hr' K), rfl, flat_strs _, ?_⟩
    refine ⟨true, ?_, iteT ?_⟩
    · rw [inV_strs (ok.self r hr')]
      rfl
    refine ⟨_, rfl, _, rfl, r.2.1, r.2.2, rfl, T2.row hr' K, Nat.lt_of_le_of_lt (ok.deg hr') (by decide), fun ys p h1 h2 h3 h4 => ?_⟩
    have ey : ys = r.2.2 := sorted_eq h1 h2 (ok.asc r hr').1 (ok.asc r hr').2 h3
    subst ey
    have e3 : Ext Ps _ (upd _ p (.lst (r.2.2.map V.str))) := Ext.new h4
    refine ⟨_, _, .lst ((e3.tree (e2.tabs ht) T2).row hr' K) (dpAll_strs _), .lst (.inl (.inl upd_same)) (dpAll_strs _), ?_, ?_, ?_⟩
    · exact shaped_strs (ok.asciis hr')
    · exact shaped_strs (ok.asciis hr')
    · show Q (.bl (PyData.eqvAll (r.2.2.map PyData.str) (r.2.2.map PyData.str))) _
      rw [eqvAll_strs]
      exact hQ _ (e2.trans e3)
end
end A8
set_option Elab.async false
set_option linter.all false
set_option maxRecDepth 100000
set_option maxHeartbeats 4000000
namespace A8
open PySem PySem.Spec PyProof.Rows L2 AL
open GxR (TabB TabG Tabbed)
abbrev sSteps : Stmt := top 14
theorem scSteps : FnScope ["tree", "target", "steps", "waiting", "node", "neighbour"] ["tree", "target"] (defScope sSteps) := ⟨rfl, rfl, rfl, by decide +kernel, rfl, by decide +kernel, by decide +kernel⟩
def kvS (ps : List (Str × Str)) : List (Key × V) := ps.map fun q => (Sum.inr q.1, .str q.2)
structure StepsOk (t : List Row) (x : Str) (ps : List (Str × Str)) : Prop where
  first : ps[0]? = some (x, x)
  nodup : (ps.map (·.1)).Nodup
  step : ∀ i y z, 0 < i → ps[i]? = some (y, z) → (∃ j z', j < i ∧ ps[j]? = some (z, z')) ∧ ∃ r ∈ t, r.1 = z ∧ y ∈ r.2.2
  all : ∀ r ∈ t, r.1 ∈ ps.map (·.1)
  nodes : ∀ y ∈ ps.map (·.1), ∃ r ∈ t, r.1 = y
def spSteps : Sp := fun vs H Q _ => ∃ (d : Addr) (t : List Row) (x : Row), vs = [.ref d, .str x.1] ∧ TreeAt H d t ∧ OkTree t ∧ x ∈ t ∧
  ∀ H' p ps, H p = none → H' p = some (.dK (kvS ps)) → StepsOk t x.1 ps → (∀ b o, H b = some o → H' b = some o) → Q (.ref p) H'
/-! ### the search, without the heap -/
abbrev keysS (ps : List (Str × Str)) : List Str := ps.map (·.1)
theorem kvS_get : ∀ (ps : List (Str × Str)) (y : Str), (valV (kvS ps) (Sum.inr y)).isSome = decide (y ∈ keysS ps)
  | [], y => by simp [kvS, valV_nil]
  | q :: ps, y => by
    by_cases e : (Sum.inr q.1 : Key) = Sum.inr y
    · have e2 : (valV (kvS (q :: ps)) (Sum.inr y)) = some (.str q.2) := valV_pos (p := (Sum.inr q.1, V.str q.2)) e
      rw [e2]
      injection e with e
      exact (decide_eq_true (by rw [← e]; exact List.mem_cons_self)).symm
    · have e2 : (valV (kvS (q :: ps)) (Sum.inr y)) = valV (kvS ps) (Sum.inr y) := valV_neg (p := (Sum.inr q.1, V.str q.2)) e
      rw [e2, kvS_get ps y]
      have ne : ¬ y = q.1 := fun z => e (by rw [z])
      exact decide_eq_decide.mpr ⟨fun h => List.mem_cons_of_mem _ h, fun h => (List.mem_cons.mp h).elim (fun z => (ne z).elim) id⟩
theorem kvS_put {ps : List (Str × Str)} {y : Str} (z : Str) (h : y ∉ keysS ps) : putK (kvS ps) (Sum.inr y) (.str z) = kvS (ps ++ [(y, z)]) := by
  unfold putK
  rw [valV_any, kvS_get, decide_eq_false h, if_neg Bool.false_ne_true]
  unfold kvS
  rw [List.map_append]
  rfl
structure Part (t : List Row) (x : Str) (ps : List (Str × Str)) : Prop where
  first : ps[0]? = some (x, x)
  nodup : (keysS ps).Nodup
  step : ∀ i y z, 0 < i → ps[i]? = some (y, z) → (∃ j z', j < i ∧ ps[j]? = some (z, z')) ∧ ∃ r ∈ t, r.1 = z ∧ y ∈ r.2.2
  nodes : ∀ y ∈ keysS ps, ∃ r ∈ t, r.1 = y
theorem Part.len {t : List Row} {x : Str} {ps : List (Str × Str)} (h : Part t x ps) : ps.length ≤ t.length := by
  have := OkTree.deg.nodup_sub (ys := t.map (·.1)) h.nodup fun y hy => let ⟨r, hr, e⟩ := h.nodes y hy; List.mem_map.mpr ⟨r, hr, e⟩
  rw [List.length_map, List.length_map] at this
  exact this
theorem Part.start {t : List Row} {x : Row} (h : x ∈ t) : Part t x.1 [(x.1, x.1)] where
  first := rfl
  nodup := by simp
  step := fun i y z hi e => by
    have : i < 1 := (List.getElem?_eq_some_iff.mp e).1
    omega
  nodes := fun y hy => ⟨x, h, (List.mem_singleton.mp hy).symm⟩
theorem Part.add {t : List Row} {x : Str} {ps : List (Str × Str)} (h : Part t x ps) (ok : OkTree t) {r : Row} (hr : r ∈ t) (hk : r.1 ∈ keysS ps) {y : Str} (hy : y ∈ r.2.2) (hn : y ∉ keysS ps) : Part t x (ps ++ [(y, r.1)]) where
  first := by
    have l0 : 0 < ps.length := (List.getElem?_eq_some_iff.mp h.first).1
    rw [List.getElem?_append_left l0]
    exact h.first
  nodup := by
    show ((ps ++ [(y, r.1)]).map (·.1)).Nodup
    rw [List.map_append]
    exact List.nodup_append.mpr ⟨h.nodup, by simp, fun a ha b hb z => hn (by rw [← show b = y from List.mem_singleton.mp hb, ← z]; exact ha)⟩
  step := fun i a z hi e => by
    by_cases q : i < ps.length
    · rw [List.getElem?_append_left q] at e
      obtain ⟨⟨j, z', hj, e'⟩, k⟩ := h.step i a z hi e
      exact ⟨⟨j, z', hj, by rw [List.getElem?_append_left (Nat.lt_trans hj q)]; exact e'⟩, k⟩
    · rw [List.getElem?_append_right (Nat.le_of_not_lt q)] at e
      have q1 : i - ps.length < 1 := (List.getElem?_eq_some_iff.mp e).1
      have q2 : i - ps.length = 0 := by omega
      rw [q2] at e
      have e3 : (y, r.1) = (a, z) := Option.some.inj e
      injection e3 with e4 e5
      obtain ⟨p, hp, ep⟩ := List.mem_map.mp hk
      obtain ⟨j, hj, ej⟩ := List.mem_iff_getElem.mp hp
      refine ⟨⟨j, p.2, by omega, ?_⟩, r, hr, e5, e4 ▸ hy⟩
      rw [List.getElem?_append_left hj, List.getElem?_eq_getElem hj, ej, ← e5, ← ep]
  nodes := fun a ha => by
    have ha' : a ∈ (ps ++ [(y, r.1)]).map (·.1) := ha
    rw [List.map_append] at ha'
    rcases List.mem_append.mp ha' with q | q
    · exact h.nodes a q
    · rw [List.mem_singleton.mp q]
      exact ok.nbs r hr y hy
theorem Part.done {t : List Row} {x : Row} {ps : List (Str × Str)} (h : Part t x.1 ps) (ok : OkTree t) (hx : x ∈ t) (cl : ∀ r ∈ t, r.1 ∈ keysS ps → ∀ y ∈ r.2.2, y ∈ keysS ps) : StepsOk t x.1 ps where
  first := h.first
  nodup := h.nodup
  step := h.step
  nodes := h.nodes
  all := ok.conn (fun y => y ∈ keysS ps) ⟨x, hx, List.mem_map.mpr ⟨(x.1, x.1), List.mem_of_getElem? h.first, rfl⟩⟩ cl
/-- the heap within the search -/
structure StH (H H' : Hp) (p q : Addr) (ps : List (Str × Str)) (ws : List Str) : Prop where
  kp : ∀ b o, H b = some o → H' b = some o
  p : H' p = some (.dK (kvS ps))
  q : H' q = some (.lst (ws.map V.str))
theorem StH.ne {H H' : Hp} {p q : Addr} {ps : List (Str × Str)} {ws : List Str} (h : StH H H' p q ps ws) : q ≠ p := fun z => by
  have := h.q
  rw [z, h.p] at this
  cases this
section
variable {P : Program} {w : World} {K : PySem.W.Frag} {mg : Str → Option Value} {base : Heap} {f c p1 : Addr} {fd : FuncData} {Ps : List Addr}
theorem ok_steps (F : FunD K "steps_to" "steps_to" (defArgs sSteps) (defBody sSteps) (defScope sSteps) [] [] f fd) : FnOk P w K mg base CX0 1 f fd ["tree", "target"] spSteps := by
  refine F.ok scSteps (fun vs H Q E h => ?_) ?_
  · obtain ⟨d, t, x, rfl, _⟩ := h
    rfl
  intro cdv A outer s H vs Q E hr h
  refine ⟨_, PSs.nox (pss_cons (ps_set (i := 2) scSteps.nd rfl (Or.inl rfl) (pe_disp (pps_cons (pv 1) (pv 1) pps_nil) rfl rfl (by decide) (by decide)))
    (pss_cons (ps_set (i := 3) scSteps.nd rfl (Or.inl rfl) (pe_lst (pa_cons (pv 1) pa_nil)))
    (pss_cons (ps_while PassesOwn.never (pt_truth (pv 3) (by intro _; rfl))
      (pss_cons (ps_set (i := 4) scSteps.nd rfl (Or.inl rfl) (pe_bm0 PySem.F.plainAttrs_list PySem.F.slot_list_pop PySem.F.type_list_pop mt_pop (pv 3)))
      (pss_one (ps_for PassesOwn.never rfl (pi_list (pe_dget (hu_of hr) (pv 0) (pv 4) (fun _ _ => rfl))) (pg_name (i := 5) scSteps.nd rfl (Or.inl rfl))
        (pss_one (ps_if (pt_cmp (pc_dnotin (hu_of hr) (pv 5) (pv 2)))
          (pss_cons (ps_dput (hu_of hr) (pv 2) (pv 5) (pv 4) rfl)
          (pss_one (ps_expr (pe_bm PySem.F.plainAttrs_list PySem.F.slot_list_append PySem.F.type_list_append mt_append (pv 3) (pa_cons (pv 5) pa_nil)))))
          pss_nil))))))
    (pss_one (ps_ret (pv 2)))))), ?_⟩
  obtain ⟨d, t, x, rfl, T, ok, hx, hQ⟩ := h
  refine fun p hp => ⟨_, rfl, _, rfl, upd_same, [(Sum.inr x.1, .str x.1)], rfl, by show 1 ≤ 15; decide, ?_⟩
  refine ⟨_, rfl, by show 1 ≤ sizeLine; decide, fun q hq => ?_⟩
  have pq : p ≠ q := fun z => by rw [← z, upd_same] at hq; cases hq
  have hq0 : H q = none := by
    rw [upd_ne (Ne.symm pq), upd_ne (Ne.symm pq)] at hq
    exact hq
  refine ⟨fun m σ H' => ∃ ps ws v4 v5, m = 2 * (t.length - ps.length) + ws.length ∧ m ≤ 80 ∧ σ = [some (.ref d), some (.str x.1), some (.ref p), some (.ref q), v4, v5] ∧ StH H H' p q ps ws ∧ Part t x.1 ps ∧
    (∀ y ∈ ws, y ∈ keysS ps) ∧ ∀ r ∈ t, r.1 ∈ keysS ps → r.1 ∉ ws → ∀ y ∈ r.2.2, y ∈ keysS ps, ⟨_, [(x.1, x.1)], [x.1], none, none, rfl, ?_, rfl, ⟨fun b o e => ?_, ?_, ?_⟩, .start hx, fun y hy => hy, fun r hr hk hn => (hn hk).elim⟩, ?_⟩
  · have := ok.n40
    simp only [List.length_singleton]
    omega
  · rw [upd_ne (ne_of_none e hq0), upd_ne (ne_of_none e hp), upd_ne (ne_of_none e hp)]
    exact e
  · rw [upd_ne pq]
    exact upd_same
  · exact upd_same
  rintro m σ H1 ⟨ps, ws, v4, v5, rfl, h80, rfl, S, Pt, hw, cl⟩
  refine ⟨_, rfl, !(ws.map V.str).isEmpty, .inl ⟨_, .inl (.inl S.q), rfl⟩, ?_⟩
  cases hws : ws with
  | nil =>
    subst hws
    refine iteF ?_
    refine ⟨_, rfl, hQ _ p ps hp S.p (Pt.done ok hx fun r hr hk => cl r hr hk List.not_mem_nil) S.kp⟩
  | cons w0 wr =>
    refine iteT ?_
    rw [← hws]
    have wne : ws ≠ [] := by rw [hws]; exact List.cons_ne_nil _ _
    clear hws
    refine ⟨fun σ' H' => ∃ ps' ws' v4 v5, 2 * (t.length - ps'.length) + ws'.length < 2 * (t.length - ps.length) + ws.length ∧ σ' = [some (.ref d), some (.str x.1), some (.ref p), some (.ref q), v4, v5] ∧ StH H H' p q ps' ws' ∧ Part t x.1 ps' ∧
      (∀ y ∈ ws', y ∈ keysS ps') ∧ ∀ r ∈ t, r.1 ∈ keysS ps' → r.1 ∉ ws' → ∀ y ∈ r.2.2, y ∈ keysS ps', fun σ' H' ⟨ps', ws', v4, v5, lt, r⟩ => ⟨_, lt, ps', ws', v4, v5, rfl, Nat.le_trans (Nat.le_of_lt lt) h80, r⟩, ?_⟩
    obtain ⟨v, hv, hsp⟩ : ∃ v, ws.getLast? = some v ∧ ws = ws.dropLast ++ [v] := ⟨_, List.getLast?_eq_some_getLast wne, (List.dropLast_concat_getLast wne).symm⟩
    have hvm : v ∈ ws := List.mem_of_getLast? hv
    obtain ⟨r, hr', er⟩ := Pt.nodes v (hw v hvm)
    subst er
    refine ⟨_, rfl, .inl ⟨rfl, _, .inl (.inl S.q)⟩, q, ws.map V.str, .str r.1, rfl, rfl, S.q, ?_, ?_⟩
    · rw [List.length_map, List.getElem?_map, ← List.getLast?_eq_getElem?, hv]
      rfl
    have S1 : StH H (upd H1 q (.lst (ws.dropLast.map V.str))) p q ps ws.dropLast := ⟨fun b o e => by rw [upd_ne (ne_of_none e hq0)]; exact S.kp b o e, by rw [upd_ne pq]; exact S.p, upd_same⟩
    have dl : (ws.map V.str).dropLast = ws.dropLast.map V.str := (List.map_dropLast).symm
    rw [dl]
    have T1 : TreeAt (upd H1 q (.lst (ws.dropLast.map V.str))) d t := ⟨T.d.elim (fun e => .inl (S1.kp _ _ e)) fun ⟨o, e⟩ => .inr ⟨o, S1.kp _ _ e⟩, fun r hr => S1.kp _ _ (T.rows r hr)⟩
    have wl : ws.dropLast.length + 1 = ws.length := by
      have := congrArg List.length hsp
      rw [List.length_append] at this
      exact this.symm
    refine ⟨_, rfl, _, rfl, d, _, rfl, T1.get ok hr', r.2.1, rfl, ⟨_, T1.row hr' K⟩, ?_⟩
    refine for_list (K := K) (xs := r.2.2.map V.str) (fun i σ' H' => ∃ ps' ws' v5, 2 * (t.length - ps'.length) + ws'.length < 2 * (t.length - ps.length) + ws.length ∧ σ' = [some (.ref d), some (.str x.1), some (.ref p), some (.ref q), some (.str r.1), v5] ∧ StH H H' p q ps' ws' ∧ Part t x.1 ps' ∧
      (∀ y ∈ ws', y ∈ keysS ps') ∧ r.1 ∈ keysS ps' ∧ (∀ s ∈ t, s.1 ∈ keysS ps' → s.1 ∉ ws' → s.1 ≠ r.1 → ∀ y ∈ s.2.2, y ∈ keysS ps') ∧ ∀ j, j < i → ∀ y, r.2.2[j]? = some y → y ∈ keysS ps')
      ⟨ps, ws.dropLast, v5, by omega, rfl, S1, Pt, fun y hy => hw y (by rw [hsp]; exact List.mem_append_left _ hy), hw _ hvm, fun s hs hk hn ne => cl s hs hk fun z => ?_, fun j hj => absurd hj (Nat.not_lt_zero _)⟩
      (fun i σ' H' _ ⟨ps', ws', v5, _, _, S', _⟩ => .inl (.inl (S'.kp _ _ (T.rows r hr')))) ?_ ?_
    · rw [hsp] at z
      rcases List.mem_append.mp z with z | z
      · exact hn z
      · exact ne (List.mem_singleton.mp z)
    · rintro i xv σ' H' hxi ⟨ps', ws', v5, lt, rfl, S', Pt', hw', hrk, cl', don⟩
      rw [List.getElem?_map] at hxi
      cases hy : r.2.2[i]? with
      | none => rw [hy] at hxi; cases hxi
      | some y =>
        rw [hy] at hxi
        cases hxi
        have hyr : y ∈ r.2.2 := List.mem_of_getElem? hy
        refine ⟨_, rfl, _, rfl, p, _, rfl, .inl ⟨_, Sum.inr y, .inl S'.p, rfl, rfl⟩, _, rfl, ?_⟩
        rw [kvS_get]
        by_cases hk : y ∈ keysS ps'
        · rw [decide_eq_true hk]
          refine iteF ?_
          exact ⟨ps', ws', _, lt, rfl, S', Pt', hw', hrk, cl', fun j hj y' hy' => by
            by_cases z : j = i
            · rw [z, hy] at hy'
              cases hy'
              exact hk
            · exact don j (by omega) y' hy'⟩
        · rw [decide_eq_false hk]
          refine iteT ?_
          have Pt2 := Pt'.add ok hr' hrk hyr hk
          have l2 := Pt2.len
          have l3 := ok.n40
          rw [List.length_append] at l2
          simp only [List.length_singleton] at l2
          refine ⟨_, rfl, _, rfl, _, rfl, p, _, rfl, DPut.k (k := Sum.inr y) S'.p (by rw [kvS, List.length_map, sizeLine_eq]; omega), ?_⟩
          rw [kvS_put r.1 hk]
          have hk0 : y ∉ ws' := fun z => hk (hw' y z)
          have yk : y ∈ keysS (ps' ++ [(y, r.1)]) := by
            show y ∈ (ps' ++ [(y, r.1)]).map (·.1)
            rw [List.map_append]
            exact List.mem_append_right _ (List.mem_singleton.mpr rfl)
          have mono : ∀ z, z ∈ keysS ps' → z ∈ keysS (ps' ++ [(y, r.1)]) := fun z hz => by
            show z ∈ (ps' ++ [(y, r.1)]).map (·.1)
            rw [List.map_append]
            exact List.mem_append_left _ hz
          have qp := S'.ne
          refine ⟨_, rfl, .inl ⟨rfl, _, .inl (.inl (by rw [upd_ne qp]; exact S'.q))⟩, _, rfl, q, ws'.map V.str, .str y, rfl, rfl, by rw [upd_ne qp]; exact S'.q, by rw [List.length_map, sizeLine_eq]; omega, ?_⟩
          refine ⟨ps' ++ [(y, r.1)], ws' ++ [y], _, ?_, rfl, ⟨fun b o e => ?_, ?_, ?_⟩, Pt2, fun z hz => ?_, mono _ hrk, fun s hs hks hns ne y' hy' => ?_, fun j hj y' hy' => ?_⟩
          · rw [List.length_append, List.length_append]
            simp only [List.length_singleton]
            omega
          · rw [upd_ne (ne_of_none e hq0), upd_ne (ne_of_none e hp)]
            exact S'.kp b o e
          · rw [upd_ne (Ne.symm qp)]
            exact upd_same
          · rw [upd_same, List.map_append]
            rfl
          · rcases List.mem_append.mp hz with z' | z'
            · exact mono _ (hw' z z')
            · rw [List.mem_singleton.mp z']
              exact yk
          · by_cases e : s.1 = y
            · exact (hns (List.mem_append_right _ (List.mem_singleton.mpr e))).elim
            · have : s.1 ∈ keysS ps' := by
                have h' : s.1 ∈ (ps' ++ [(y, r.1)]).map (·.1) := hks
                rw [List.map_append] at h'
                rcases List.mem_append.mp h' with z | z
                · exact z
                · exact (e (List.mem_singleton.mp z)).elim
              exact mono _ (cl' s hs this (fun z => hns (List.mem_append_left _ z)) ne y' hy')
          · by_cases z : j = i
            · rw [z, hy] at hy'
              cases hy'
              exact yk
            · exact mono _ (don j (by omega) y' hy')
    · rintro σ' H' ⟨ps', ws', v5, lt, rfl, S', Pt', hw', hrk, cl', don⟩
      refine ⟨ps', ws', _, _, lt, rfl, S', Pt', hw', fun s hs hk hn => ?_⟩
      by_cases e : s.1 = r.1
      · rw [ok.one hs hr' e]
        intro y hy
        obtain ⟨j, hj, ej⟩ := List.mem_iff_getElem.mp hy
        exact don j (by rw [List.length_map]; exact hj) y (by rw [List.getElem?_eq_getElem hj, ej])
      · exact cl' s hs hk hn e
end
end A8
set_option Elab.async false
set_option linter.all false
set_option maxRecDepth 100000
set_option maxHeartbeats 4000000
namespace A8
open PySem PySem.Spec PyProof.Rows L2 AL
open GxR (TabB TabG Tabbed)
abbrev sPiece : Stmt := top 10
theorem scPiece : FnScope ["graph", "ends", "node"] ["graph"] (defScope sPiece) := ⟨rfl, rfl, rfl, by decide +kernel, rfl, by decide +kernel, by decide +kernel⟩
def spPiece : Sp := fun vs H Q _ => ∃ (d : Addr) (t : List Row), vs = [.ref d] ∧ H d = some (.dK (kvsOf t)) ∧ RowsAt H t ∧ OkTree t ∧ ∀ H', Same H H' → Q (.bl true) H'
def rLenQ (K : PySem.W.Frag) : List V → Hp → VK → Prop := fun xs H Q => ∃ p ys, xs = [V.ref p] ∧ (SqL K H p ys ∨ SqT K H p ys) ∧ Q (V.int ys.length) H
theorem min_of : ∀ {l : List Str}, l ≠ [] → ∃ m ∈ l, ∀ k ∈ l, ¬ sLt k m
  | [], h => (h rfl).elim
  | [a], _ => ⟨a, List.mem_cons_self, fun k hk => by rw [List.mem_singleton.mp hk]; exact sLt_irrefl _⟩
  | a :: b :: r, _ => by
    obtain ⟨m, hm, hk⟩ := min_of (l := b :: r) (List.cons_ne_nil _ _)
    by_cases h : sLt a m
    · exact ⟨a, List.mem_cons_self, fun k hk' => by
        rcases List.mem_cons.mp hk' with rfl | z
        · exact sLt_irrefl _
        · exact fun q => hk k z (sLt_tr q h)⟩
    · exact ⟨m, List.mem_cons_of_mem _ hm, fun k hk' => by
        rcases List.mem_cons.mp hk' with rfl | z
        · exact h
        · exact hk k z⟩
theorem StepsOk.len {t : List Row} {x : Str} {ps : List (Str × Str)} (h : StepsOk t x ps) (ok : OkTree t) : ps.length = t.length := by
  have h1 := OkTree.deg.nodup_sub (ys := t.map (·.1)) h.nodup fun y hy => let ⟨r, hr, e⟩ := h.nodes y hy; List.mem_map.mpr ⟨r, hr, e⟩
  have h2 := OkTree.deg.nodup_sub (ys := ps.map (·.1)) ok.nodup fun y hy => by
    obtain ⟨r, hr, e⟩ := List.mem_map.mp hy
    rw [← e]
    exact h.all r hr
  rw [List.length_map, List.length_map] at h1 h2
  omega
def degs (t : List Row) : List Int := t.map fun r => (r.2.2.length : Int)
theorem degs_sum : ∀ t : List Row, (degs t).sum = (((t.map fun r => r.2.2.length).sum : Nat) : Int)
  | [] => rfl
  | r :: t => by
    have := degs_sum t
    show (r.2.2.length : Int) + (degs t).sum = ((r.2.2.length + (t.map fun r => r.2.2.length).sum : Nat) : Int)
    rw [this]
    omega
section
variable {P : Program} {w : World} {K : PySem.W.Frag} {mg : Str → Option Value} {base : Heap} {f c p1 : Addr} {fd : FuncData} {Ps : List Addr}
theorem ok_piece (F : FunD K "_is_one_piece_without_cycles" "_is_one_piece_without_cycles" (defArgs sPiece) (defBody sPiece) (defScope sPiece) [] [] f fd) (cS : Cal P w K mg base 1 "steps_to" spSteps)
    (gS : mg "sum" = none) (gL : mg "len" = none) (gM : mg "min" = none) : FnOk P w K mg base CX0 2 f fd ["graph"] spPiece := by
  refine F.ok scPiece (fun vs H Q E h => ?_) ?_
  · obtain ⟨d, t, rfl, _⟩ := h
    rfl
  intro cdv A outer s H vs Q E hr h
  refine ⟨_, PSs.nox (pss_cons (ps_set (i := 1) scPiece.nd rfl (Or.inl rfl) (pe_lock (pe_callB (cr_sum rfl) rfl gS (by decide +kernel) (pa_cons (pe_lc (own := [("node", 2)]) (g := gName 2) (tt := tYes) (te := tCB (rLenQ K) (tCons (tDGet (tVar 0) (tVar 2)) tNil)) rfl scPiece.nd (pi_keys (pv 0)) (blkOk_by (N := ["graph", "ends", "node"]) (sc := defScope sPiece) (by decide +kernel))
      (fun _ _ _ _ _ => pg_name (i := 2) scPiece.nd rfl (Or.inl rfl)) (fun _ _ _ _ _ => pts_nil) (fun _ _ _ _ _ => pe_callB call_len_seq rfl gL boot_len (pa_cons (pe_dget (hu_of hr) (pv 0) (pv 2) (fun _ _ => rfl)) pa_nil))) pa_nil))))
    (pss_one (ps_ret (pe_and (pe_cmpR op_eq (pv 1) (pe_op op_sub (pe_op op_mul pe_int (pe_callB call_lenD rfl gL boot_len (pa_cons (pv 0) pa_nil))) pe_int) rfl)
      (pe_one (pe_cmpR op_eq (pe_callB call_lenD rfl gL boot_len (pa_cons (pe_c cS hr (by decide) rfl (pa_cons (pv 0) (pa_cons (pe_callB (call_minD rfl) rfl gM (by decide +kernel) (pa_cons (pv 0) pa_nil)) pa_nil))) pa_nil)) (pe_callB call_lenD rfl gL boot_len (pa_cons (pv 0) pa_nil)) rfl)))))), ?_⟩
  obtain ⟨d, t, rfl, hd, hR, ok, hQ⟩ := h
  refine ⟨d, _, hd, trivial, fun od => ?_⟩
  have hR0 : RowsAt (upd H d (.frz od (.dK (kvsOf t)))) t := rows_lock hd hR
  refine ⟨_, rfl, d, od, rfl, .inl ⟨kvsOf t, upd_same, fun D hD => ?_⟩⟩
  have Dd : D ≠ d := fun z => by rw [z, upd_same] at hD; cases hD
  have HD : H D = none := by
    rw [upd_ne Dd] at hD
    exact hD
  have T0 : TreeAt (upd H d (.frz od (.dK (kvsOf t)))) d t := ⟨.inr ⟨od, upd_same⟩, hR0⟩
  have keep : ∀ {b : Addr} {o u : HO}, upd H d (.frz od (.dK (kvsOf t))) b = some o → upd (upd H d (.frz od (.dK (kvsOf t)))) D u b = some o := fun e => by
    rw [upd_ne (ne_of_none e hD)]
    exact e
  refine lc_it walk_keys (fun i H' => H' = upd (upd H d (.frz od (.dK (kvsOf t)))) D (.lst ((degs (t.take i)).map V.int))) rfl (fun i H' _ e => by rw [e]; exact keep upd_same) ?_ ?_
  · rintro i x H1 H' hi rfl ⟨rfl, k, v, hk, rfl⟩
    obtain ⟨r, hr, hrt, rfl, rfl⟩ := kvsOf_at hk
    have T1 : TreeAt (upd (upd H d (.frz od (.dK (kvsOf t)))) D (.lst ((degs (t.take i)).map V.int))) d t := ⟨.inr ⟨od, keep upd_same⟩, fun r hr => keep (hR0 r hr)⟩
    refine ⟨rfl, _, rfl, _, rfl, d, _, rfl, T1.get ok hrt, r.2.1, _, rfl, .inl (T1.row hrt K), _, upd_same, ?_, ?_⟩
    · have := ok.n40
      rw [degs, List.map_map, List.length_map, List.length_take, sizeLine_eq]
      omega
    · rw [upd_upd, degs, degs, List.take_succ, hr, List.map_append, List.map_append, List.length_map]
      rfl
  · rintro H' rfl
    refine ⟨D, degs t, rfl, .inl (.inl (by rw [upd_same, kvsOf_len, List.take_length])), keep upd_same, ?_⟩
    have hL : Same H (upd (upd (upd H d (.frz od (.dK (kvsOf t)))) D (.lst ((degs (t.take (kvsOf t).length)).map V.int))) d (.dK (kvsOf t))) := fun b o e => by
      by_cases z : b = d
      · rw [z] at e ⊢
        rw [upd_same, ← e, hd]
      · rw [upd_ne z, upd_ne (ne_of_none e HD), upd_ne z]
        exact e
    generalize upd (upd (upd H d (.frz od (.dK (kvsOf t)))) D (.lst ((degs (t.take (kvsOf t).length)).map V.int))) d (.dK (kvsOf t)) = HL at hL
    have TL : TreeAt HL d t := ⟨.inl (hL _ _ hd), fun r hr => hL _ _ (hR r hr)⟩
    have n1 := ok.n1
    have n40 := ok.n40
    refine ⟨_, rfl, _, rfl, d, _, rfl, hL _ _ hd, _, _, rfl, rfl, .inl ⟨by decide, by decide⟩, _, _, rfl, rfl, rfl, true, ?_, iteT ?_⟩
    · refine congrArg V.bl (decide_eq_true (congrArg V.int ?_))
      have e1 := degs_sum t
      have e2 := ok.ends
      rw [kvsOf_len, e1]
      omega
    obtain ⟨m, hm, hmin⟩ := min_of (l := t.map (·.1)) (fun z => by
      rw [List.map_eq_nil_iff] at z
      rw [z] at n1
      exact absurd n1 (by decide))
    refine ⟨_, rfl, _, rfl, d, kvsOf t, t.map (·.1), rfl, .inl (hL _ _ hd), by unfold kvsOf; rw [List.map_map, List.map_map]; rfl, fun z => ?_, fun m' hm' hmin' => ?_⟩
    · rw [z] at hm
      cases hm
    obtain ⟨r, hr', er⟩ := List.mem_map.mp hm'
    subst er
    refine ⟨d, t, r, rfl, TL, ok, hr', fun H3 p ps hp hp3 so same => ?_⟩
    refine ⟨p, _, rfl, hp3, _, rfl, d, _, rfl, same _ _ (hL _ _ hd), rfl, ?_⟩
    have e : decide (V.int ((kvS ps).length : Int) = V.int ((kvsOf t).length : Int)) = true := decide_eq_true (by rw [kvsOf_len, kvS, List.length_map, so.len ok])
    show Q (.bl (decide (V.int ((kvS ps).length : Int) = V.int ((kvsOf t).length : Int)))) H3
    rw [e]
    exact hQ _ (hL.trans same)
end
end A8
set_option Elab.async false
set_option linter.all false
set_option maxRecDepth 100000
set_option maxHeartbeats 4000000
namespace A8
open PySem PySem.Spec PyProof.Rows L2 AL
open GxR (TabB TabG Tabbed)
section
variable {Ps : List Addr} {H H1 : Hp} {d : Addr} {u : HO} {o : Obj}
theorem Ext.unlock (hd : H d = some u) (n : ∀ ps, u ≠ .tbl ps) (e : Ext Ps (upd H d (.frz o u)) H1) : Ext Ps H (upd H1 d u) where
  kp := fun b v h z => by
    by_cases q : b = d
    · rw [q] at h ⊢
      rw [upd_same, ← h, hd]
    · rw [upd_ne q]
      exact e.kp b v (by rw [upd_ne q]; exact h) z
  tb := fun p hp h => by
    obtain ⟨ps, e1, e2⟩ := h
    have q : p ≠ d := fun q => by
      rw [q, hd] at e1
      exact n ps (Option.some.inj e1)
    obtain ⟨ps', e3, e4⟩ := e.tb p hp ⟨ps, by rw [upd_ne q]; exact e1, e2⟩
    exact ⟨ps', by rw [upd_ne q]; exact e3, e4⟩
theorem Ext.lockd (ht : Tabs Ps H) (hd : H d = some u) (n : ∀ ps, u ≠ .tbl ps) (e : Ext Ps (upd H d (.frz o u)) H1) : H1 d = some (.frz o u) :=
  e.kp d _ upd_same (notPs' ht hd n)
theorem Ext.same (h : Same H H1) : Ext Ps H H1 := ⟨fun b o e _ => h b o e, fun p _ ⟨ps, e, t⟩ => ⟨ps, h _ _ e, t⟩⟩
end
theorem quant_keys {K : PySem.W.Frag} {Ps : List Addr} {p1 d : Addr} {kvs : List (Key × V)} {g : TG} {te : TE} {vs : List Nat} {σ : L2.St} {H : Hp} {Q : VK} (hp : p1 ∈ Ps) (hd : H d = some (.dK kvs)) (h0 : σ[0]? = some (some (.ref d))) (ht : Tabs Ps H)
    (hs : ∀ (od : Obj) (i : Nat) (k : Key) (v : V) (H1 : Hp) (Nx : VK), kvs[i]? = some (k, v) → Ext Ps (upd H d (.frz od (.dK kvs))) H1 → Tabs Ps (upd H d (.frz od (.dK kvs))) → (∀ H3, Ext Ps (upd H d (.frz od (.dK kvs))) H3 → Nx (.bl true) H3) →
      g (kV k) (wipe σ vs) H1 fun σ2 H2 => wipe σ2 vs = wipe σ vs ∧ te σ2 H2 Nx)
    (hQ : ∀ H', Ext Ps H H' → Q (.bl true) H') : tLockE (tQuant K p1 false (iKeys (tVar 0)) g te vs) σ H Q := by
  refine ⟨d, _, hd, trivial, fun od => ?_⟩
  have nT : ∀ ps, HO.dK kvs ≠ .tbl ps := fun _ z => by cases z
  have t0 : Tabs Ps (upd H d (.frz od (.dK kvs))) := tabs_upd ht (notPs' ht hd nT)
  refine ⟨_, h0, d, od, rfl, .inl ⟨kvs, upd_same, t0 _ hp, fun H2 hT => ?_⟩⟩
  exact all_keys (fun H' => Ext Ps (upd H d (.frz od (.dK kvs))) H') (Ext.tabbed hp hT) (fun H' e => e.lockd ht hd nT) (fun i k v H1 Nx hk e hN => hs od i k v H1 Nx hk e t0 hN)
    fun H' e => ⟨e.lockd ht hd nT, hQ _ (e.unlock hd nT)⟩
abbrev sIsTree : Stmt := top 8
theorem scIsTree : FnScope ["value", "node", "other"] ["value"] (defScope sIsTree) := ⟨rfl, rfl, rfl, by decide +kernel, rfl, by decide +kernel, by decide +kernel⟩
def spIsTree (Ps : List Addr) : Sp := fun vs H Q _ => ∃ (d : Addr) (t : List Row), vs = [.ref d] ∧ H d = some (.dK (kvsOf t)) ∧ RowsAt H t ∧ OkTree t ∧ Tabs Ps H ∧ ∀ H', Ext Ps H H' → Q (.bl true) H'
section
variable {P : Program} {w : World} {K : PySem.W.Frag} {mg : Str → Option Value} {base : Heap} {f c p1 : Addr} {fd : FuncData} {Ps : List Addr}
theorem ok_isTree (F : FunD K "is_tree" "is_tree" (defArgs sIsTree) (defBody sIsTree) (defScope sIsTree) [] [] f fd) (hc : fd.code = .ref c) (TB : TabB base mg c p1) (hp : p1 ∈ Ps)
    (cN : Cal P w K mg base 2 "is_name" (spIsName Ps)) (cL : Cal P w K mg base 3 "_has_proper_list" (spHasList Ps)) (cP : Cal P w K mg base 2 "_is_one_piece_without_cycles" spPiece)
    (gI : mg "isinstance" = none) (gA : mg "all" = none) (gL : mg "len" = none) (gD : mg "dict" = none) {tk : Tok} (gM : mg "MOST_NODES" = some (.int 40 tk)) : FnOk P w K mg base CX0 5 f fd ["value"] (spIsTree Ps) := by
  refine okC F hc scIsTree (fun vs H Q E h => ?_) ?_
  · obtain ⟨d, t, rfl, _⟩ := h
    rfl
  intro A outer s H vs Q E hr h
  refine ⟨_, pss_one (ps_ret (pe_and (pe_callB call_isi rfl gI (by decide +kernel) (pa_cons (pv 0) (pa_cons (pe_bltn (u := .type "dict") (v := .ty "dict") rfl gD (by decide +kernel) rfl) pa_nil)))
      (pe_and (pe_chain op_le op_le pe_int (pe_callB call_lenD rfl gL boot_len (pa_cons (pv 0) pa_nil)) (pe_glob (v := .int 40) rfl gM ⟨_, rfl⟩))
        (pe_and (pe_lock (pe_allG (k := 3) (own := [("node", 1)]) hr rfl scIsTree.nd rfl gA TB rfl (gOk_by (N := ["value", "node", "other"]) (sc := defScope sIsTree) (by decide +kernel) rfl (by decide +kernel) rfl) (pi_keys (pv 0)) (fun s H C cl code fp A pn => pg_name (i := 1) scIsTree.nd rfl (Or.inl rfl))
          (fun s H C cl code fp A pn hr => pe_c cN hr (by decide) rfl (pa_cons (pv 1) pa_nil))))
        (pe_and (pe_lock (pe_allG (k := 3) (own := [("node", 1)]) hr rfl scIsTree.nd rfl gA TB rfl (gOk_by (N := ["value", "node", "other"]) (sc := defScope sIsTree) (by decide +kernel) rfl (by decide +kernel) rfl) (pi_keys (pv 0)) (fun s H C cl code fp A pn => pg_name (i := 1) scIsTree.nd rfl (Or.inl rfl))
          (fun s H C cl code fp A pn hr => pe_c cL hr (by decide) rfl (pa_cons (pv 0) (pa_cons (pv 1) pa_nil)))))
        (pe_and (pe_lock (pe_allG2 (k := 3) (own := [("node", 1), ("other", 2)]) (vs0 := [1]) (vs1 := [2]) (wi1 := iList K (tDGet (tVar 0) (tVar 1))) (te := tOp (rIn K false) (tVar 1) (tDGet (tVar 0) (tVar 2))) hr rfl scIsTree.nd rfl gA TB rfl (gOk_by (N := ["value", "node", "other"]) (sc := defScope sIsTree) (by decide +kernel) rfl (by decide +kernel) rfl) (pi_keys (pv 0)) (fun s H C cl code fp A pn => pg_name (i := 1) scIsTree.nd rfl (Or.inl rfl))
          (fun s H C cl code fp A pn hr => pi_list (pe_dget (hu_of hr) (pv 0) (pv 1) (fun _ _ => rfl)))
          (fun s H C cl code fp A pn => pg_name (i := 2) scIsTree.nd rfl (Or.inl rfl))
          (fun s H C cl code fp A pn hr => pe_cmpR op_in_seq (pv 1) (pe_dget (hu_of hr) (pv 0) (pv 2) (fun _ _ => rfl)) rfl)))
          (pe_one (pe_c cP hr (by decide) rfl (pa_cons (pv 0) pa_nil))))))))), ?_⟩
  obtain ⟨d, t, rfl, hd, hR, ok, ht, hQ⟩ := h
  have n1 := ok.n1
  have n40 := ok.n40
  refine ⟨_, rfl, _, _, .type "dict", .type "dict", true, rfl, .ty "dict", .base (.dK hd), kit_ty (by decide +kernel), true, rfl, iteT ?_⟩
  refine ⟨_, rfl, d, _, rfl, hd, _, _, rfl, rfl, true, congrArg V.bl (decide_eq_true (by rw [kvsOf_len]; omega)), iteT ?_⟩
  refine ⟨_, _, rfl, rfl, true, congrArg V.bl (decide_eq_true (by rw [kvsOf_len]; omega)), iteT ?_⟩
  refine quant_keys hp hd rfl ht (fun od i k v H1 Nx hk e t0 hN => ?_) fun HA eA => ⟨true, rfl, iteT ?_⟩
  · obtain ⟨r, hr, hrt, rfl, rfl⟩ := kvsOf_at hk
    exact ⟨rfl, _, rfl, r.1, rfl, ok.names r hrt, e.tabs t0, fun H' e' => hN _ (e.trans e')⟩
  have hdA := eA.get ht hd fun _ z => by cases z
  have hRA := eA.rows ht hR
  have htA := eA.tabs ht
  refine quant_keys hp hdA rfl htA (fun od i k v H1 Nx hk e t0 hN => ?_) fun HB eB => ⟨true, rfl, iteT ?_⟩
  · obtain ⟨r, hr, hrt, rfl, rfl⟩ := kvsOf_at hk
    have T1 : TreeAt H1 d t := ⟨.inr ⟨od, e.lockd htA hdA fun _ z => by cases z⟩, e.rows t0 (rows_lock hdA hRA)⟩
    exact ⟨rfl, _, rfl, _, rfl, d, t, r, rfl, T1, ok, hrt, e.tabs t0, fun H' e' => hN _ (e.trans e')⟩
  have hdB := eB.get htA hdA fun _ z => by cases z
  have hRB := eB.rows htA hRA
  have htB := eB.tabs htA
  have nT : ∀ ps, HO.dK (kvsOf t) ≠ .tbl ps := fun _ z => by cases z
  refine ⟨d, _, hdB, trivial, fun od => ?_⟩
  have t0 : Tabs Ps (upd HB d (.frz od (.dK (kvsOf t)))) := tabs_upd htB (notPs' htB hdB nT)
  refine ⟨_, rfl, d, od, rfl, .inl ⟨kvsOf t, upd_same, t0 _ hp, fun H2 hT => ?_⟩⟩
  have e2 := Ext.tabbed hp hT
  have T2 : TreeAt H2 d t := ⟨.inr ⟨od, e2.lockd htB hdB nT⟩, e2.rows t0 (rows_lock hdB hRB)⟩
  refine all_keys2 (e2.lockd htB hdB nT) (fun i => (t.getD i (Str.empty, 0, [])).2.1) (fun i => (t.getD i (Str.empty, 0, [])).2.2.map V.str) 41 (fun i => ?_) (fun i k v hk => ?_) (fun i k v hk R hR1 => ?_) ?_
  · rw [List.length_map, List.getD_eq_getElem?_getD]
    cases q : t[i]? with
    | none => exact Nat.zero_lt_succ _
    | some r => exact Nat.lt_succ_of_le (ok.deg (List.mem_of_getElem? q))
  · obtain ⟨r, hr, hrt, _, _⟩ := kvsOf_at hk
    rw [List.getD_eq_getElem?_getD, hr]
    exact T2.row hrt K
  · obtain ⟨r, hr, hrt, rfl, rfl⟩ := kvsOf_at hk
    rw [List.getD_eq_getElem?_getD, hr] at hR1
    refine hR1 _ rfl (fun R1 ⟨_, h⟩ => ⟨_, rfl, _, rfl, d, _, rfl, T2.get ok hrt, r.2.1, rfl, ⟨_, T2.row hrt K⟩, h⟩) fun j y Nx hy hN => ?_
    have hy' : (r.2.2.map V.str)[j]? = some y := hy
    rw [List.getElem?_map] at hy'
    cases q : r.2.2[j]? with
    | none => rw [q] at hy'; cases hy'
    | some z =>
      rw [q] at hy'
      cases hy'
      have hz : z ∈ r.2.2 := List.mem_of_getElem? q
      obtain ⟨s', hs', es⟩ := ok.nbs r hrt z hz
      subst es
      refine ⟨rfl, _, rfl, _, rfl, _, rfl, d, _, rfl, T2.get ok hs', s'.2.1, _, rfl, .inl (T2.row hs' K), rfl, flat_strs _, ?_⟩
      show Nx (.bl (inV (.str r.1) (s'.2.2.map V.str))) _
      rw [inV_in (ok.sym r hrt s' hs' hz)]
      exact hN
  · refine ⟨e2.lockd htB hdB nT, true, rfl, iteT ?_⟩
    have eC : Ext Ps H (upd H2 d (.dK (kvsOf t))) := eA.trans (eB.trans (e2.unlock hdB nT))
    refine ⟨_, rfl, d, t, rfl, upd_same, eC.rows ht hR, ok, fun H' hs => hQ _ (eC.trans (Ext.same hs))⟩
end
end A8
set_option Elab.async false
set_option linter.all false
set_option maxRecDepth 100000
set_option maxHeartbeats 4000000
namespace A8
open PySem PySem.Spec PyProof.Rows L2 AL
/-! ### a tree that grows by leaves -/
structure Gr (m : Nat) (adj : Nat → List Nat) : Prop where
  far : ∀ v, m < v → adj v = []
  le : ∀ v u, u ∈ adj v → u ≤ m
  sym : ∀ v u, u ∈ adj v → v ∈ adj u
  irr : ∀ v, v ∉ adj v
  nd : ∀ v, (adj v).Nodup
  sum : ((List.range (m + 1)).map fun v => (adj v).length).sum = 2 * m
  conn : ∀ S : Nat → Prop, (∀ v, S v → ∀ u ∈ adj v, S u) → ∀ v w, v ≤ m → w ≤ m → S v → S w
def addE (adj : Nat → List Nat) (k a : Nat) : Nat → List Nat := fun v => if v = k then adj v ++ [a] else if v = a then adj v ++ [k] else adj v
theorem mem_addE {adj : Nat → List Nat} {k a v u : Nat} (ne : k ≠ a) : u ∈ addE adj k a v ↔ u ∈ adj v ∨ (v = k ∧ u = a) ∨ (v = a ∧ u = k) := by
  unfold addE
  by_cases h1 : v = k
  · rw [if_pos h1, List.mem_append, List.mem_singleton]
    constructor
    · rintro (h | h)
      · exact .inl h
      · exact .inr (.inl ⟨h1, h⟩)
    · rintro (h | ⟨_, h⟩ | ⟨h, _⟩)
      · exact .inl h
      · exact .inr h
      · exact (ne (h1.symm.trans h)).elim
  · rw [if_neg h1]
    by_cases h2 : v = a
    · rw [if_pos h2, List.mem_append, List.mem_singleton]
      constructor
      · rintro (h | h)
        · exact .inl h
        · exact .inr (.inr ⟨h2, h⟩)
      · rintro (h | ⟨h, _⟩ | ⟨_, h⟩)
        · exact .inl h
        · exact (h1 h).elim
        · exact .inr h
    · rw [if_neg h2]
      constructor
      · exact .inl
      · rintro (h | ⟨h, _⟩ | ⟨h, _⟩)
        · exact h
        · exact (h1 h).elim
        · exact (h2 h).elim
theorem sum_upd (f g : Nat → Nat) (a : Nat) (h : ∀ v, v ≠ a → g v = f v) (ha : g a = f a + 1) : ∀ n, ((List.range n).map g).sum = ((List.range n).map f).sum + if a < n then 1 else 0
  | 0 => rfl
  | n + 1 => by
    rw [List.range_succ, List.map_append, List.map_append, List.sum_append_nat, List.sum_append_nat, sum_upd f g a h ha n]
    simp only [List.map_cons, List.map_nil, List.sum_cons, List.sum_nil]
    by_cases e : n = a
    · rw [e, ha, if_neg (Nat.lt_irrefl a), if_pos (Nat.lt_succ_self a)]
      omega
    · rw [h n e]
      by_cases l : a < n
      · rw [if_pos l, if_pos (by omega)]
        omega
      · rw [if_neg l, if_neg (by omega)]
        omega
theorem Gr.zero : Gr 0 fun _ => [] where
  far := fun _ _ => rfl
  le := fun _ _ h => absurd h List.not_mem_nil
  sym := fun _ _ h => absurd h List.not_mem_nil
  irr := fun _ => List.not_mem_nil
  nd := fun _ => .nil
  sum := rfl
  conn := fun S _ v w hv hw h => by
    obtain rfl : v = 0 := by omega
    obtain rfl : w = 0 := by omega
    exact h
theorem Gr.step {m a : Nat} {adj : Nat → List Nat} (g : Gr m adj) (h : a ≤ m) : Gr (m + 1) (addE adj (m + 1) a) where
  far := fun v hv => by
    unfold addE
    rw [if_neg (by omega), if_neg (by omega)]
    exact g.far v (by omega)
  le := fun v u hu => by
    rcases (mem_addE (by omega)).mp hu with q | ⟨_, q⟩ | ⟨_, q⟩
    · exact Nat.le_succ_of_le (g.le v u q)
    · omega
    · omega
  sym := fun v u hu => by
    refine (mem_addE (by omega)).mpr ?_
    rcases (mem_addE (by omega)).mp hu with q | ⟨p, q⟩ | ⟨p, q⟩
    · exact .inl (g.sym v u q)
    · exact .inr (.inr ⟨q, p⟩)
    · exact .inr (.inl ⟨q, p⟩)
  irr := fun v hu => by
    rcases (mem_addE (by omega)).mp hu with q | ⟨p, q⟩ | ⟨p, q⟩
    · exact g.irr v q
    · omega
    · omega
  nd := fun v => by
    have no : ∀ {x : Nat}, x ∉ adj v → (adj v ++ [x]).Nodup := fun hx => List.nodup_append.mpr ⟨g.nd v, by simp, fun y hy z hz e => hx (by rw [← List.mem_singleton.mp hz, ← e]; exact hy)⟩
    unfold addE
    by_cases h1 : v = m + 1
    · rw [if_pos h1]
      exact no (by rw [h1, g.far _ (Nat.lt_succ_self m)]; exact List.not_mem_nil)
    · rw [if_neg h1]
      by_cases h2 : v = a
      · rw [if_pos h2]
        exact no fun q => by
          have := g.le _ _ q
          omega
      · rw [if_neg h2]
        exact g.nd v
  sum := by
    have f1 : ∀ v, v ≠ a → (fun v => if v = a then (adj v).length + 1 else (adj v).length) v = (adj v).length := fun v hv => if_neg hv
    have s1 := sum_upd (fun v => (adj v).length) (fun v => if v = a then (adj v).length + 1 else (adj v).length) a f1 (if_pos rfl) (m + 2)
    have s2 := sum_upd (fun v => if v = a then (adj v).length + 1 else (adj v).length) (fun v => (addE adj (m + 1) a v).length) (m + 1) (fun v hv => by
      show (addE adj (m + 1) a v).length = if v = a then (adj v).length + 1 else (adj v).length
      unfold addE
      rw [if_neg hv]
      by_cases e : v = a
      · rw [if_pos e, if_pos e, List.length_append]
        rfl
      · rw [if_neg e, if_neg e]) (by
      show (addE adj (m + 1) a (m + 1)).length = (if m + 1 = a then (adj (m + 1)).length + 1 else (adj (m + 1)).length) + 1
      unfold addE
      rw [if_pos rfl, if_neg (by omega), List.length_append]
      rfl) (m + 2)
    rw [if_pos (by omega)] at s1 s2
    have s3 : ((List.range (m + 2)).map fun v => (adj v).length).sum = ((List.range (m + 1)).map fun v => (adj v).length).sum := by
      rw [List.range_succ, List.map_append, List.sum_append_nat]
      simp only [List.map_cons, List.map_nil, List.sum_cons, List.sum_nil, g.far (m + 1) (Nat.lt_succ_self m)]
      rfl
    have := g.sum
    show ((List.range (m + 2)).map fun v => (addE adj (m + 1) a v).length).sum = _
    omega
  conn := fun S hS v w hv hw hv1 => by
    have cl : ∀ v, S v → ∀ u ∈ adj v, S u := fun v hv u hu => hS v hv u ((mem_addE (by omega)).mpr (.inl hu))
    have ka : S (m + 1) → S a := fun q => hS _ q _ ((mem_addE (by omega)).mpr (.inr (.inl ⟨rfl, rfl⟩)))
    have ak : S a → S (m + 1) := fun q => hS _ q _ ((mem_addE (by omega)).mpr (.inr (.inr ⟨rfl, rfl⟩)))
    have va : S a := by
      by_cases e : v = m + 1
      · exact ka (e ▸ hv1)
      · exact g.conn S cl v a (by omega) h hv1
    by_cases e : w = m + 1
    · exact e ▸ ak va
    · exact g.conn S cl a w h (by omega) va
theorem perm_sum {l k : List Nat} (h : l.Perm k) : l.sum = k.sum := by
  induction h with
  | nil => rfl
  | cons x _ ih => rw [List.sum_cons, List.sum_cons, ih]
  | swap x y l => simp only [List.sum_cons]; omega
  | trans _ _ i1 i2 => exact i1.trans i2
abbrev nmAt (ns : List Str) (v : Nat) : Str := ns.getD v Str.empty
theorem nmAt_eq {ns : List Str} {v : Nat} (h : v < ns.length) : nmAt ns v = ns[v] := by
  rw [nmAt, List.getD_eq_getElem?_getD, List.getElem?_eq_getElem h]
  rfl
theorem nmAt_mem {ns : List Str} {v : Nat} (h : v < ns.length) : nmAt ns v ∈ ns := by
  rw [nmAt_eq h]
  exact List.getElem_mem h
theorem nmAt_inj {ns : List Str} (nd : ns.Nodup) {v u : Nat} (hv : v < ns.length) (hu : u < ns.length) (e : nmAt ns v = nmAt ns u) : v = u := by
  rw [nmAt_eq hv, nmAt_eq hu] at e
  exact (List.getElem_inj nd).mp e
theorem idx_nm {ns : List Str} (nd : ns.Nodup) {v : Nat} (hv : v < ns.length) : ns.idxOf (nmAt ns v) = v := by
  have l : ns.idxOf (nmAt ns v) < ns.length := List.idxOf_lt_length_of_mem (nmAt_mem hv)
  refine nmAt_inj nd l hv ?_
  rw [nmAt_eq l]
  exact List.getElem_idxOf l
theorem okTree_of {n : Nat} {ns : List Str} {adj : Nat → List Nat} {t : List Row} (g : Gr n adj) (hn : ns.length = n + 1) (h40 : n + 1 ≤ 40) (nd : ns.Nodup) (nok : ∀ x ∈ ns, NameOk x) (pm : (t.map (·.1)).Perm ns)
    (rows : ∀ r ∈ t, r.2.2.Perm ((adj (ns.idxOf r.1)).map (nmAt ns)) ∧ sortedS r.2.2 = true) : OkTree t := by
  have tl : t.length = n + 1 := by
    have := pm.length_eq
    rw [List.length_map] at this
    omega
  have isn : ∀ r ∈ t, ∃ v, v < ns.length ∧ r.1 = nmAt ns v ∧ ns.idxOf r.1 = v := fun r hr => by
    have hm : r.1 ∈ ns := pm.subset (List.mem_map.mpr ⟨r, hr, rfl⟩)
    have l := List.idxOf_lt_length_of_mem hm
    exact ⟨_, l, by rw [nmAt_eq l]; exact (List.getElem_idxOf l).symm, rfl⟩
  have row : ∀ v, v < ns.length → ∃ r ∈ t, r.1 = nmAt ns v := fun v hv => by
    obtain ⟨r, hr, e⟩ := List.mem_map.mp (pm.symm.subset (nmAt_mem hv))
    exact ⟨r, hr, e⟩
  have mem : ∀ r ∈ t, ∀ y, y ∈ r.2.2 ↔ ∃ u ∈ adj (ns.idxOf r.1), nmAt ns u = y := fun r hr y => by
    rw [(rows r hr).1.mem_iff, List.mem_map]
  refine ⟨by omega, by omega, fun r hr => ?_, pm.symm.nodup nd, fun r hr y hy => ?_, fun r hr hy => ?_, fun r hr => ⟨(rows r hr).2, ?_⟩, fun r hr s hs hy => ?_, ?_, fun S hS cl => ?_⟩
  · exact nok _ (pm.subset (List.mem_map.mpr ⟨r, hr, rfl⟩))
  · obtain ⟨u, hu, e⟩ := (mem r hr y).mp hy
    obtain ⟨s, hs, es⟩ := row u (by have := g.le _ _ hu; omega)
    exact ⟨s, hs, es.trans e⟩
  · obtain ⟨u, hu, e⟩ := (mem r hr _).mp hy
    obtain ⟨v, hv, e1, e2⟩ := isn r hr
    rw [e2] at hu
    have : u = v := nmAt_inj nd (by have := g.le _ _ hu; omega) hv (by rw [e, e1])
    exact g.irr v (this ▸ hu)
  · refine (rows r hr).1.symm.nodup ?_
    obtain ⟨v, hv, e1, e2⟩ := isn r hr
    rw [e2]
    exact nd_map (g.nd v) fun a ha b hb e => nmAt_inj nd (by have := g.le _ _ ha; omega) (by have := g.le _ _ hb; omega) e
  · obtain ⟨u, hu, e⟩ := (mem r hr _).mp hy
    obtain ⟨v, hv, e1, e2⟩ := isn r hr
    obtain ⟨v', hv', e1', e2'⟩ := isn s hs
    rw [e2] at hu
    have : u = v' := nmAt_inj nd (by have := g.le _ _ hu; omega) hv' (by rw [e, e1'])
    refine (mem s hs _).mpr ⟨v, ?_, e1.symm⟩
    rw [e2', ← this]
    exact g.sym v u hu
  · have e1 : t.map (fun r => r.2.2.length) = (t.map (·.1)).map fun x => (adj (ns.idxOf x)).length := by
      rw [List.map_map]
      refine List.map_congr_left fun r hr => ?_
      have := (rows r hr).1.length_eq
      rw [List.length_map] at this
      exact this
    have e2 : ns.map (fun x => (adj (ns.idxOf x)).length) = (List.range (n + 1)).map fun v => (adj v).length := by
      refine List.ext_getElem (by rw [List.length_map, List.length_map, List.length_range, hn]) fun i h1 h2 => ?_
      rw [List.length_map] at h1
      rw [List.getElem_map, List.getElem_map, List.getElem_range]
      have := idx_nm nd h1
      rw [nmAt_eq h1] at this
      rw [this]
    have e3 := perm_sum (pm.map fun x => (adj (ns.idxOf x)).length)
    have := g.sum
    rw [e1, e3, e2, this, tl]
    omega
  · obtain ⟨r, hr, h1⟩ := hS
    obtain ⟨v, hv, e1, e2⟩ := isn r hr
    intro s hs
    obtain ⟨w, hw, e3, e4⟩ := isn s hs
    rw [e3]
    refine (g.conn (fun v => v < ns.length ∧ S (nmAt ns v)) (fun v ⟨lv, hv⟩ u hu => ?_) v w (by omega) (by omega) ⟨hv, e1 ▸ h1⟩).2
    obtain ⟨r', hr', er'⟩ := row v lv
    have ei : ns.idxOf r'.1 = v := by rw [er']; exact idx_nm nd lv
    refine ⟨by have := g.le _ _ hu; omega, cl r' hr' (er' ▸ hv) _ ((mem r' hr' _).mpr ⟨u, by rw [ei]; exact hu, rfl⟩)⟩
where nd_map : ∀ {l : List Nat} {f : Nat → Str}, l.Nodup → (∀ a ∈ l, ∀ b ∈ l, f a = f b → a = b) → (l.map f).Nodup
  | [], _, _, _ => .nil
  | x :: l, f, nd, inj => by
    have n2 := List.nodup_cons.mp nd
    rw [List.map_cons, List.nodup_cons]
    refine ⟨fun h => ?_, nd_map n2.2 fun a ha b hb => inj a (List.mem_cons_of_mem _ ha) b (List.mem_cons_of_mem _ hb)⟩
    obtain ⟨y, hy, e⟩ := List.mem_map.mp h
    have := inj y (List.mem_cons_of_mem _ hy) x List.mem_cons_self e
    exact n2.1 (this ▸ hy)
end A8
set_option Elab.async false
set_option linter.all false
set_option maxRecDepth 100000
set_option maxHeartbeats 4000000
namespace A8
open PySem PySem.Spec PyProof.Rows L2 AL
/-! ### directions in a tree -/
def Nb (t : List Row) (u w : Str) : Prop := ∃ r ∈ t, r.1 = u ∧ w ∈ r.2.2
/-- the directed edges -/
def edgesD (t : List Row) : List (Str × Str) := t.flatMap fun r => r.2.2.map fun y => (r.1, y)
def edgesP (ps : List (Str × Str)) : List (Str × Str) := ps.flatMap fun q => [(q.1, q.2), (q.2, q.1)]
theorem mem_edgesD {t : List Row} {u w : Str} : (u, w) ∈ edgesD t ↔ Nb t u w := by
  unfold edgesD Nb
  rw [List.mem_flatMap]
  constructor
  · rintro ⟨r, hr, h⟩
    obtain ⟨y, hy, e⟩ := List.mem_map.mp h
    injection e with e1 e2
    exact ⟨r, hr, e1, e2 ▸ hy⟩
  · rintro ⟨r, hr, e, h⟩
    exact ⟨r, hr, List.mem_map.mpr ⟨w, h, by rw [e]⟩⟩
theorem len_edgesD : ∀ t : List Row, (edgesD t).length = (t.map fun r => r.2.2.length).sum
  | [] => rfl
  | r :: t => by
    have := len_edgesD t
    unfold edgesD at this ⊢
    rw [List.flatMap_cons, List.length_append, this, List.length_map]
    rfl
theorem len_edgesP : ∀ ps : List (Str × Str), (edgesP ps).length = 2 * ps.length
  | [] => rfl
  | q :: ps => by
    have := len_edgesP ps
    unfold edgesP at this ⊢
    rw [List.flatMap_cons, List.length_append, this]
    simp only [List.length_cons, List.length_nil]
    omega
theorem mem_edgesP {ps : List (Str × Str)} {u w : Str} : (u, w) ∈ edgesP ps ↔ (u, w) ∈ ps ∨ (w, u) ∈ ps := by
  unfold edgesP
  rw [List.mem_flatMap]
  constructor
  · rintro ⟨q, hq, h⟩
    simp only [List.mem_cons, List.not_mem_nil, or_false] at h
    rcases h with h | h
    · exact .inl (by rw [h]; exact hq)
    · refine .inr ?_
      injection h with e1 e2
      rw [e1, e2]
      exact hq
  · rintro (h | h)
    · exact ⟨_, h, List.mem_cons_self⟩
    · exact ⟨_, h, List.mem_cons_of_mem _ List.mem_cons_self⟩
section
variable {t : List Row} {x : Str} {ps : List (Str × Str)}
/-- the place of a key -/
theorem StepsOk.place (h : StepsOk t x ps) {i j : Nat} {y z z' : Str} (hi : ps[i]? = some (y, z)) (hj : ps[j]? = some (y, z')) : i = j := by
  obtain ⟨li, ei⟩ := List.getElem?_eq_some_iff.mp hi
  obtain ⟨lj, ej⟩ := List.getElem?_eq_some_iff.mp hj
  have l1 : i < (keysS ps).length := by rw [List.length_map]; exact li
  have l2 : j < (keysS ps).length := by rw [List.length_map]; exact lj
  refine (List.getElem_inj (h₀ := l1) (h₁ := l2) h.nodup).mp ?_
  rw [List.getElem_map, List.getElem_map, ei, ej]
theorem StepsOk.fn (h : StepsOk t x ps) {y z z' : Str} (h1 : (y, z) ∈ ps) (h2 : (y, z') ∈ ps) : z = z' := by
  obtain ⟨i, li, ei⟩ := List.mem_iff_getElem.mp h1
  obtain ⟨j, lj, ej⟩ := List.mem_iff_getElem.mp h2
  have e := h.place (i := i) (j := j) (by rw [List.getElem?_eq_getElem li, ei]) (by rw [List.getElem?_eq_getElem lj, ej])
  subst e
  rw [ei] at ej
  injection ej
theorem StepsOk.cons_ (h : StepsOk t x ps) : ∃ rest, ps = (x, x) :: rest := by
  have := h.first
  cases ps with
  | nil => cases this
  | cons q r => exact ⟨r, by rw [Option.some.inj this]⟩
theorem StepsOk.edge (h : StepsOk t x ps) (ok : OkTree t) {y z : Str} (hm : (y, z) ∈ ps) (ne : y ≠ x) : Nb t z y ∧ Nb t y z := by
  obtain ⟨i, li, ei⟩ := List.mem_iff_getElem.mp hm
  have hi : ps[i]? = some (y, z) := by rw [List.getElem?_eq_getElem li, ei]
  have i0 : 0 < i := by
    cases i with
    | zero =>
      rw [h.first] at hi
      injection hi with hi
      injection hi with e1 e2
      exact (ne e1.symm).elim
    | succ i => exact Nat.succ_pos i
  obtain ⟨_, r, hr, er, hy⟩ := h.step i y z i0 hi
  obtain ⟨s, hs, es⟩ := ok.nbs r hr y hy
  exact ⟨⟨r, hr, er, hy⟩, ⟨s, hs, es, er ▸ ok.sym r hr s hs (by rw [es]; exact hy)⟩⟩
/-- every edge goes to the parent or to a child -/
theorem StepsOk.par (h : StepsOk t x ps) (ok : OkTree t) {u w : Str} (hn : Nb t u w) : (u ≠ x ∧ (u, w) ∈ ps) ∨ (w ≠ x ∧ (w, u) ∈ ps) := by
  obtain ⟨rest, rfl⟩ := h.cons_
  have nk := h.nodup
  rw [List.map_cons, List.nodup_cons] at nk
  have rne : ∀ q ∈ rest, q.1 ≠ x := fun q hq e => nk.1 (List.mem_map.mpr ⟨q, hq, e⟩)
  have sub : ∀ e ∈ edgesP rest, e ∈ edgesD t := fun e he => by
    obtain ⟨a, b⟩ := e
    rcases mem_edgesP.mp he with q | q
    · exact mem_edgesD.mpr (h.edge ok (List.mem_cons_of_mem _ q) (rne _ q)).2
    · exact mem_edgesD.mpr (h.edge ok (List.mem_cons_of_mem _ q) (rne _ q)).1
  have order : ∀ {a b c : Str}, (a, b) ∈ rest → (b, a) ∈ rest → False := fun {a b c} h1 h2 => by
    obtain ⟨i, li, ei⟩ := List.mem_iff_getElem.mp h1
    obtain ⟨j, lj, ej⟩ := List.mem_iff_getElem.mp h2
    have hi : ((x, x) :: rest)[i + 1]? = some (a, b) := by rw [List.getElem?_cons_succ, List.getElem?_eq_getElem li, ei]
    have hj : ((x, x) :: rest)[j + 1]? = some (b, a) := by rw [List.getElem?_cons_succ, List.getElem?_eq_getElem lj, ej]
    obtain ⟨⟨k, z, lk, ek⟩, _⟩ := h.step _ _ _ (Nat.succ_pos i) hi
    obtain ⟨⟨k', z', lk', ek'⟩, _⟩ := h.step _ _ _ (Nat.succ_pos j) hj
    have e1 := h.place ek hj
    have e2 := h.place ek' hi
    omega
  have selfN : ∀ {a b : Str}, (a, b) ∈ rest → a ≠ b := fun {a b} h1 e => by
    subst e
    exact order (c := a) h1 h1
  have ndP : (edgesP rest).Nodup := by
    have go : ∀ (l : List (Str × Str)), (∀ q ∈ l, q ∈ rest) → (l.map (·.1)).Nodup → (edgesP l).Nodup := fun l => by
      induction l with
      | nil => intro _ _; exact .nil
      | cons q l ih =>
        intro hl hnd
        rw [List.map_cons, List.nodup_cons] at hnd
        have i1 := ih (fun p hp => hl p (List.mem_cons_of_mem _ hp)) hnd.2
        have qr := hl q List.mem_cons_self
        have sn := selfN (a := q.1) (b := q.2) qr
        have out1 : (q.1, q.2) ∉ edgesP l := fun hm => by
          rcases mem_edgesP.mp hm with z | z
          · exact hnd.1 (List.mem_map.mpr ⟨_, z, rfl⟩)
          · exact order (c := q.1) (show (q.1, q.2) ∈ rest from qr) (hl _ (List.mem_cons_of_mem _ z))
        have out2 : (q.2, q.1) ∉ edgesP l := fun hm => by
          rcases mem_edgesP.mp hm with z | z
          · exact order (c := q.1) (show (q.1, q.2) ∈ rest from qr) (hl _ (List.mem_cons_of_mem _ z))
          · exact hnd.1 (List.mem_map.mpr ⟨_, z, rfl⟩)
        show ((q.1, q.2) :: (q.2, q.1) :: edgesP l).Nodup
        refine List.nodup_cons.mpr ⟨fun hm => ?_, List.nodup_cons.mpr ⟨out2, i1⟩⟩
        rcases List.mem_cons.mp hm with z | z
        · injection z with z1 _
          exact sn z1
        · exact out1 z
    exact go rest (fun q hq => hq) nk.2
  have hl : (edgesD t).length = (edgesP rest).length := by
    have l1 := h.len ok
    rw [List.length_cons] at l1
    have l2 := ok.ends
    rw [len_edgesD, len_edgesP]
    omega
  have all : ∀ e ∈ edgesD t, e ∈ edgesP rest := fun e he => by
    apply Classical.byContradiction
    intro hn
    have l := pigeon (xs := edgesP rest) (ys := (edgesD t).erase e) ndP fun y hy => (List.mem_erase_of_ne fun z => hn (by rw [← z]; exact hy)).mpr (sub y hy)
    rw [List.length_erase_of_mem he] at l
    have := List.length_pos_of_mem he
    omega
  rcases mem_edgesP.mp (all _ (mem_edgesD.mpr hn)) with q | q
  · exact .inl ⟨rne _ q, List.mem_cons_of_mem _ q⟩
  · exact .inr ⟨rne _ q, List.mem_cons_of_mem _ q⟩
where pigeon : ∀ {xs ys : List (Str × Str)}, xs.Nodup → (∀ y ∈ xs, y ∈ ys) → xs.length ≤ ys.length
  | [], _, _, _ => Nat.zero_le _
  | x :: xs, ys, nd, h => by
    have hx := h x List.mem_cons_self
    have nd' := List.nodup_cons.mp nd
    have l := pigeon (xs := xs) (ys := ys.erase x) nd'.2 fun y hy => (List.mem_erase_of_ne fun z => nd'.1 (by rw [← z]; exact hy)).mpr (h y (List.mem_cons_of_mem _ hy))
    rw [List.length_erase_of_mem hx] at l
    have := List.length_pos_of_mem hx
    simp only [List.length_cons]
    omega
/-- below v -/
inductive Below (ps : List (Str × Str)) (v : Str) : Str → Prop
  | child {z : Str} : (z, v) ∈ ps → z ≠ v → Below ps v z
  | step {z w : Str} : (z, w) ∈ ps → z ≠ w → Below ps v w → Below ps v z
/-- reached from b, never over v -/
inductive Away (t : List Row) (v b : Str) : Str → Prop
  | here : b ≠ v → Away t v b b
  | on {z w : Str} : Away t v b z → Nb t z w → w ≠ v → Away t v b w
theorem Below.root (h : StepsOk t x ps) {v z : Str} (b : Below ps v z) : z ≠ x := by
  have hr : (x, x) ∈ ps := List.mem_of_getElem? h.first
  cases b with
  | child h1 ne => exact fun e => ne (by rw [e] at h1; rw [e, ← h.fn h1 hr])
  | step h1 ne _ => exact fun e => ne (by rw [e] at h1; rw [e, ← h.fn h1 hr])
theorem Below.on (h : StepsOk t x ps) (ok : OkTree t) {v z w : Str} (b : Below ps v z) (hn : Nb t z w) (ne : w ≠ v) : Below ps v w := by
  rcases h.par ok hn with ⟨zx, hm⟩ | ⟨wx, hm⟩
  · cases b with
    | child h1 _ => exact (ne (h.fn hm h1)).elim
    | step h1 _ h2 => rw [h.fn hm h1]; exact h2
  · refine .step hm (fun e => ?_) b
    subst e
    obtain ⟨r, hr, er, hw⟩ := hn
    exact ok.self r hr (er ▸ hw)
/-- the neighbour from which the target is reached without v is v's parent -/
theorem StepsOk.dir (h : StepsOk t x ps) (ok : OkTree t) {v b : Str} (hb : Nb t v b) (a : Away t v b x) : (v, b) ∈ ps := by
  rcases h.par ok hb with ⟨_, hm⟩ | ⟨bx, hm⟩
  · exact hm
  · have ne : b ≠ v := fun e => by
      obtain ⟨r, hr, er, hw⟩ := hb
      exact ok.self r hr (by rw [er, ← e]; exact hw)
    have all : ∀ z, Away t v b z → Below ps v z := fun z q => by
      induction q with
      | here _ => exact .child hm ne
      | on _ hn w ih => exact ih.on h ok hn w
    exact ((all x a).root h rfl).elim
end
theorem Away.pre {t : List Row} {v b c x : Str} (hn : Nb t b c) (ne : b ≠ v) (a : Away t v c x) : Away t v b x := by
  induction a with
  | here h => exact .on (.here ne) hn h
  | on _ h w ih => exact .on ih h w
/-- the direction from v to y -/
def Dr (t : List Row) (v y z : Str) : Prop := (v = y ∧ z = v) ∨ (v ≠ y ∧ Nb t v z ∧ Away t v z y)
section
variable {t : List Row} {x : Str} {ps : List (Str × Str)}
theorem StepsOk.away (h : StepsOk t x ps) (ok : OkTree t) {v : Str} {i : Nat} {z : Str} (hi : ps[i]? = some (v, z)) : ∀ (n j : Nat) (w c : Str), j < n → j < i → ps[j]? = some (w, c) → Away t v w x
  | 0, _, _, _, hn, _, _ => absurd hn (Nat.not_lt_zero _)
  | n + 1, j, w, c, hn, hj, hw => by
    have wv : w ≠ v := fun e => by
      have := h.place (i := j) (j := i) (by rw [hw, e]) hi
      omega
    by_cases e : w = x
    · rw [e] at wv ⊢
      exact .here wv
    · have j0 : 0 < j := by
        cases j with
        | zero =>
          rw [h.first] at hw
          injection hw with hw
          injection hw with e1 _
          exact (e e1.symm).elim
        | succ j => exact Nat.succ_pos j
      obtain ⟨⟨k, c', hk, hc⟩, _⟩ := h.step j w c j0 hw
      exact (h.away ok hi n k c c' (by omega) (by omega) hc).pre (h.edge ok (List.mem_of_getElem? hw) e).2 wv
theorem StepsOk.dr (h : StepsOk t x ps) (ok : OkTree t) {v z : Str} (hm : (v, z) ∈ ps) : Dr t v x z := by
  by_cases e : v = x
  · refine .inl ⟨e, ?_⟩
    subst e
    exact h.fn hm (List.mem_of_getElem? h.first)
  · obtain ⟨i, li, ei⟩ := List.mem_iff_getElem.mp hm
    have hi : ps[i]? = some (v, z) := by rw [List.getElem?_eq_getElem li, ei]
    have i0 : 0 < i := by
      cases i with
      | zero =>
        rw [h.first] at hi
        injection hi with hi
        injection hi with e1 _
        exact (e e1.symm).elim
      | succ i => exact Nat.succ_pos i
    obtain ⟨⟨k, c', hk, hc⟩, _⟩ := h.step i v z i0 hi
    exact .inr ⟨e, (h.edge ok hm e).2, h.away ok hi i k z c' hk hk hc⟩
theorem StepsOk.of_dr (h : StepsOk t x ps) (ok : OkTree t) {v z : Str} (d : Dr t v x z) : (v, z) ∈ ps := by
  rcases d with ⟨e, e2⟩ | ⟨_, hn, a⟩
  · rw [e2, e]
    exact List.mem_of_getElem? h.first
  · exact h.dir ok hn a
theorem exists_steps (ok : OkTree t) {r : Row} (hr : r ∈ t) : ∃ ps, StepsOk t r.1 ps := by
  have go : ∀ (k : Nat) (ps : List (Str × Str)), Part t r.1 ps → t.length - ps.length = k → ∃ ps, StepsOk t r.1 ps := fun k => by
    induction k with
    | zero =>
      intro ps P e
      refine ⟨ps, P.done ok hr fun s hs hk y hy => ?_⟩
      apply Classical.byContradiction
      intro hn
      have := (P.add ok hs hk hy hn).len
      rw [List.length_append] at this
      simp only [List.length_singleton] at this
      omega
    | succ k ih =>
      intro ps P e
      by_cases c : ∀ s ∈ t, s.1 ∈ keysS ps → ∀ y ∈ s.2.2, y ∈ keysS ps
      · exact ⟨ps, P.done ok hr c⟩
      · obtain ⟨s, c⟩ := Classical.not_forall.mp c
        obtain ⟨hs, c⟩ := Classical.not_imp.mp c
        obtain ⟨hk, c⟩ := Classical.not_imp.mp c
        obtain ⟨y, c⟩ := Classical.not_forall.mp c
        obtain ⟨hy, hn⟩ := Classical.not_imp.mp c
        refine ih _ (P.add ok hs hk hy hn) ?_
        rw [List.length_append]
        simp only [List.length_singleton]
        omega
  exact go _ _ (Part.start hr) rfl
theorem Dr.unique (ok : OkTree t) {r : Row} (hr : r ∈ t) {v z z' : Str} (d : Dr t v r.1 z) (d' : Dr t v r.1 z') : z = z' := by
  obtain ⟨ps, h⟩ := exists_steps ok hr
  exact h.fn (h.of_dr ok d) (h.of_dr ok d')
end
/-- the direction, as a function -/
noncomputable def dirN (t : List Row) (v y : Str) : Str := @Classical.epsilon Str ⟨v⟩ (Dr t v y)
theorem dirN_eq {t : List Row} (ok : OkTree t) {r : Row} (hr : r ∈ t) {v z : Str} (d : Dr t v r.1 z) : dirN t v r.1 = z :=
  Dr.unique ok hr (@Classical.epsilon_spec_aux Str ⟨v⟩ (Dr t v r.1) ⟨z, d⟩) d
/-! ### views -/
def seen1 (v : Str) (δ : Str → Str) (a b : Str) : List Str := if δ b = v ∨ δ b ≠ δ a then [δ b] else []
def viewF (v : Str) (δ : Str → Str) : List Str → List Str
  | [] => []
  | [_] => []
  | a :: b :: r => seen1 v δ a b ++ viewF v δ (b :: r)
theorem viewF_snoc (v : Str) (δ : Str → Str) : ∀ (l : List Str) (a b : Str), viewF v δ (l ++ [a] ++ [b]) = viewF v δ (l ++ [a]) ++ seen1 v δ a b
  | [], a, b => by
    show seen1 v δ a b ++ [] = [] ++ seen1 v δ a b
    rw [List.append_nil, List.nil_append]
  | [c], a, b => by
    show seen1 v δ c a ++ (seen1 v δ a b ++ []) = (seen1 v δ c a ++ []) ++ seen1 v δ a b
    rw [List.append_nil, List.append_nil]
  | c :: e :: l, a, b => by
    show seen1 v δ c e ++ viewF v δ (e :: l ++ [a] ++ [b]) = (seen1 v δ c e ++ viewF v δ (e :: l ++ [a])) ++ seen1 v δ a b
    rw [viewF_snoc v δ (e :: l) a b, List.append_assoc]
theorem viewF_len (v : Str) (δ : Str → Str) : ∀ l : List Str, (viewF v δ l).length ≤ l.length
  | [] => Nat.le_refl _
  | [_] => Nat.zero_le _
  | a :: b :: r => by
    have h := viewF_len v δ (b :: r)
    show (seen1 v δ a b ++ viewF v δ (b :: r)).length ≤ (b :: r).length + 1
    rw [List.length_append]
    have : (seen1 v δ a b).length ≤ 1 := by
      unfold seen1
      split
      · exact Nat.le_refl _
      · exact Nat.zero_le _
    omega
end A8
set_option Elab.async false
set_option linter.all false
set_option maxRecDepth 100000
set_option maxHeartbeats 4000000
namespace A8
open PySem PySem.Spec PyProof.Rows L2 AL
/-! ### walks that never turn back at once -/
structure Wk (t : List Row) (v : Str) (p : List Str) : Prop where
  h0 : p[0]? = some v
  nb : ∀ i a b, p[i]? = some a → p[i + 1]? = some b → Nb t a b
  nr : ∀ i a b, p[i]? = some a → p[i + 2]? = some b → a ≠ b
section
variable {t : List Row} {v x : Str} {ps : List (Str × Str)}
theorem at_lt {α : Type} {l : List α} {i : Nat} {a : α} (h : l[i]? = some a) : i < l.length := (List.getElem?_eq_some_iff.mp h).1
theorem Wk.ne {p : List Str} (h : Wk t v p) : p ≠ [] := fun z => by
  have := h.h0
  rw [z] at this
  cases this
theorem Wk.one : Wk t v [v] where
  h0 := rfl
  nb := fun i a b _ h => by
    have := at_lt h
    simp only [List.length_singleton] at this
    omega
  nr := fun i a b _ h => by
    have := at_lt h
    simp only [List.length_singleton] at this
    omega
theorem Wk.pre {p : List Str} {w : Str} (h : Wk t v (p ++ [w])) (ne : p ≠ []) : Wk t v p := by
  have up : ∀ {i : Nat} {a : Str}, p[i]? = some a → (p ++ [w])[i]? = some a := fun {i a} e => by rw [List.getElem?_append_left (at_lt e)]; exact e
  refine ⟨?_, fun i a b h1 h2 => h.nb i a b (up h1) (up h2), fun i a b h1 h2 => h.nr i a b (up h1) (up h2)⟩
  have := h.h0
  rw [List.getElem?_append_left (List.length_pos_iff.mpr ne)] at this
  exact this
theorem Wk.snoc {p : List Str} {u w : Str} (h : Wk t v (p ++ [u])) (hn : Nb t u w) (nr : ∀ b, p.getLast? = some b → b ≠ w) : Wk t v (p ++ [u] ++ [w]) := by
  have l1 : (p ++ [u]).length = p.length + 1 := by rw [List.length_append]; rfl
  have atU : (p ++ [u] ++ [w])[p.length]? = some u := by
    rw [List.getElem?_append_left (by rw [l1]; omega), List.getElem?_append_right (Nat.le_refl _), Nat.sub_self]
    rfl
  have atW : (p ++ [u] ++ [w])[p.length + 1]? = some w := by
    rw [List.getElem?_append_right (by rw [l1]; exact Nat.le_refl _), l1, Nat.sub_self]
    rfl
  have down : ∀ {i : Nat} {a : Str}, i < p.length + 1 → (p ++ [u] ++ [w])[i]? = some a → (p ++ [u])[i]? = some a := fun {i a} hi e => by
    rw [List.getElem?_append_left (by rw [l1]; exact hi)] at e
    exact e
  refine ⟨?_, fun i a b h1 h2 => ?_, fun i a b h1 h2 => ?_⟩
  · rw [List.getElem?_append_left (by rw [l1]; omega)]
    exact h.h0
  · have l := at_lt h2
    rw [List.length_append, l1] at l
    simp only [List.length_singleton] at l
    by_cases q : i + 1 < p.length + 1
    · exact h.nb i a b (down (by omega) h1) (down q h2)
    · have e : i = p.length := by omega
      rw [e, atU] at h1
      rw [e, atW] at h2
      rw [← Option.some.inj h1, ← Option.some.inj h2]
      exact hn
  · have l := at_lt h2
    rw [List.length_append, l1] at l
    simp only [List.length_singleton] at l
    by_cases q : i + 2 < p.length + 1
    · exact h.nr i a b (down (by omega) h1) (down q h2)
    · have e : i + 2 = p.length + 1 := by omega
      rw [e, atW] at h2
      rw [← Option.some.inj h2]
      refine nr a ?_
      have h3 := down (by omega) h1
      rw [List.getElem?_append_left (by omega)] at h3
      rw [List.getLast?_eq_getElem?, show p.length - 1 = i by omega]
      exact h3
/-- every step of it goes to a child -/
theorem Wk.par {p : List Str} (W : Wk t v p) (h : StepsOk t v ps) (ok : OkTree t) : ∀ i a b, p[i]? = some a → p[i + 1]? = some b → (b, a) ∈ ps ∧ b ≠ v
  | 0, a, b, h1, h2 => by
    have hn := W.nb 0 a b h1 h2
    rw [W.h0] at h1
    rw [← Option.some.inj h1] at hn ⊢
    rcases h.par ok hn with ⟨z, _⟩ | ⟨z, hm⟩
    · exact (z rfl).elim
    · exact ⟨hm, z⟩
  | i + 1, a, b, h1, h2 => by
    have hi : i < p.length := by have := at_lt h1; omega
    have h0 : p[i]? = some p[i] := List.getElem?_eq_getElem hi
    obtain ⟨q1, q2⟩ := W.par h ok i p[i] a h0 h1
    rcases h.par ok (W.nb (i + 1) a b h1 h2) with ⟨_, hm⟩ | ⟨z, hm⟩
    · exact (W.nr i p[i] b h0 h2 (h.fn q1 hm)).elim
    · exact ⟨hm, z⟩
theorem snoc_of {l : List Str} (h : l ≠ []) : ∃ p w, l = p ++ [w] := ⟨l.dropLast, l.getLast h, (List.dropLast_concat_getLast h).symm⟩
theorem last_snoc {p : List Str} {w : Str} : (p ++ [w]).getLast? = some w := by simp
/-- one walk to each node -/
theorem Wk.unique (h : StepsOk t v ps) (ok : OkTree t) : ∀ (n : Nat) (p q : List Str), p.length ≤ n → Wk t v p → Wk t v q → p.getLast? = q.getLast? → p = q
  | 0, p, q, hn, W, _, _ => (W.ne (List.eq_nil_of_length_eq_zero (by omega))).elim
  | n + 1, p, q, hn, W, W', e => by
    obtain ⟨p1, w, rfl⟩ := snoc_of W.ne
    obtain ⟨q1, w', rfl⟩ := snoc_of W'.ne
    rw [last_snoc, last_snoc] at e
    have ew := Option.some.inj e
    subst ew
    have step : ∀ {l : List Str} {a : Str}, Wk t v (l ++ [a] ++ [w]) → (w, a) ∈ ps ∧ w ≠ v := fun {l a} X => by
      refine X.par h ok l.length a w ?_ ?_
      · rw [List.getElem?_append_left (by rw [List.length_append]; simp), List.getElem?_append_right (Nat.le_refl _), Nat.sub_self]
        rfl
      · rw [List.getElem?_append_right (by rw [List.length_append]; exact Nat.le_refl _), List.length_append]
        simp
    have solo : ∀ {l : List Str}, Wk t v (l ++ [w]) → l = [] → w = v := fun {l} X z => by
      have := X.h0
      rw [z] at this
      exact Option.some.inj this
    by_cases z1 : p1 = []
    · by_cases z2 : q1 = []
      · rw [z1, z2]
      · obtain ⟨l, a, rfl⟩ := snoc_of z2
        exact ((step W').2 (solo W z1)).elim
    · by_cases z2 : q1 = []
      · obtain ⟨l, a, rfl⟩ := snoc_of z1
        exact ((step W).2 (solo W' z2)).elim
      · have Wp := W.pre z1
        have Wq := W'.pre z2
        obtain ⟨l, a, rfl⟩ := snoc_of z1
        obtain ⟨l', a', rfl⟩ := snoc_of z2
        have ea : a = a' := h.fn (step W).1 (step W').1
        subst ea
        have hl : (l ++ [a]).length ≤ n := by
          rw [List.length_append] at hn
          simp only [List.length_singleton] at hn
          omega
        rw [Wk.unique h ok n (l ++ [a]) (l' ++ [a]) hl Wp Wq (by rw [last_snoc, last_snoc])]
/-- along the parents -/
def Ch (ps : List (Str × Str)) (p : List Str) : Prop := ∀ i a b, p[i]? = some a → p[i + 1]? = some b → (a, b) ∈ ps ∧ a ≠ b
theorem StepsOk.lower (h : StepsOk t x ps) {y z : Str} {i : Nat} (hi : ps[i]? = some (y, z)) (ne : y ≠ x) : ∃ j z', j < i ∧ ps[j]? = some (z, z') := by
  have i0 : 0 < i := by
    cases i with
    | zero =>
      rw [h.first] at hi
      injection hi with hi
      injection hi with e1 _
      exact (ne e1.symm).elim
    | succ i => exact Nat.succ_pos i
  exact (h.step i y z i0 hi).1
theorem StepsOk.self (h : StepsOk t x ps) {y z : Str} (hm : (y, z) ∈ ps) (ne : y ≠ z) : y ≠ x := fun e => by
  rw [e] at hm ne
  exact ne (h.fn (List.mem_of_getElem? h.first) hm)
theorem Ch.wk (h : StepsOk t x ps) (ok : OkTree t) {p : List Str} (c : Ch ps p) (h0 : p[0]? = some v) : Wk t v p := by
  refine ⟨h0, fun i a b h1 h2 => ?_, fun i a c' h1 h3 e => ?_⟩
  · obtain ⟨hm, ne⟩ := c i a b h1 h2
    exact (h.edge ok hm (h.self hm ne)).2
  · subst e
    have l : i + 1 < p.length := by have := at_lt h3; omega
    have h2 : p[i + 1]? = some p[i + 1] := List.getElem?_eq_getElem l
    obtain ⟨m1, n1⟩ := c i a p[i + 1] h1 h2
    obtain ⟨m2, n2⟩ := c (i + 1) p[i + 1] a h2 h3
    obtain ⟨k, lk, ek⟩ := List.mem_iff_getElem.mp m1
    obtain ⟨k', lk', ek'⟩ := List.mem_iff_getElem.mp m2
    have q1 : ps[k]? = some (a, p[i + 1]) := by rw [List.getElem?_eq_getElem lk, ek]
    have q2 : ps[k']? = some (p[i + 1], a) := by rw [List.getElem?_eq_getElem lk', ek']
    obtain ⟨j, z, lj, ej⟩ := h.lower q1 (h.self m1 n1)
    obtain ⟨j', z', lj', ej'⟩ := h.lower q2 (h.self m2 n2)
    have e1 := h.place ej q2
    have e2 := h.place ej' q1
    omega
theorem exists_path (h : StepsOk t x ps) (ok : OkTree t) : ∀ (n i : Nat) (v z : Str), i < n → ps[i]? = some (v, z) → ∃ p, Ch ps p ∧ p[0]? = some v ∧ p.getLast? = some x
  | 0, _, _, _, hn, _ => absurd hn (Nat.not_lt_zero _)
  | n + 1, i, v, z, hn, hi => by
    by_cases e : v = x
    · rw [e]
      refine ⟨[x], fun i a b _ h2 => ?_, rfl, rfl⟩
      have := at_lt h2
      simp only [List.length_singleton] at this
      omega
    · obtain ⟨j, z', lj, ej⟩ := h.lower hi e
      obtain ⟨p, c, p0, pl⟩ := exists_path h ok n j z z' (by omega) ej
      have hm : (v, z) ∈ ps := List.mem_of_getElem? hi
      have ne : v ≠ z := fun q => by
        subst q
        obtain ⟨r, hr, er, hw⟩ := (h.edge ok hm e).2
        exact ok.self r hr (er ▸ hw)
      refine ⟨v :: p, fun i a b h1 h2 => ?_, rfl, ?_⟩
      · cases i with
        | zero =>
          rw [List.getElem?_cons_succ, p0] at h2
          rw [List.getElem?_cons_zero] at h1
          rw [← Option.some.inj h1, ← Option.some.inj h2]
          exact ⟨hm, ne⟩
        | succ i =>
          rw [List.getElem?_cons_succ] at h1 h2
          exact c i a b h1 h2
      · cases p with
        | nil => cases p0
        | cons q r => exact pl
/-- the second of the path and the path again -/
theorem Ch.second (h : StepsOk t x ps) {p : List Str} (c : Ch ps p) (h0 : p[0]? = some v) (hl : p.getLast? = some x) {z : Str} (hm : (v, z) ∈ ps) : (p ++ p)[1]? = some z := by
  match p, c, h0, hl with
  | [a], c, h0, hl =>
    have e1 : a = v := Option.some.inj h0
    have e2 : a = x := Option.some.inj hl
    have : z = x := h.fn hm (by rw [← e1, e2]; exact List.mem_of_getElem? h.first)
    show some a = some z
    rw [e2, this]
  | a :: b :: r, c, h0, hl =>
    have e1 : a = v := Option.some.inj h0
    obtain ⟨m, _⟩ := c 0 a b rfl rfl
    have e2 : b = z := h.fn (show (v, b) ∈ ps by rw [← e1]; exact m) hm
    show some b = some z
    rw [e2]
end
end A8
set_option Elab.async false
set_option linter.all false
set_option maxRecDepth 100000
set_option maxHeartbeats 4000000
namespace A8
open PySem PySem.Spec PyProof.Rows L2 AL
open GxR (TabB TabG Tabbed)
/-! ### the law's numbers -/
abbrev sSrc : Stmt := top 20
theorem scSrc : FnScope ["script", "k", "cell"] ["script", "k"] (defScope sSrc) := ⟨rfl, rfl, rfl, by decide +kernel, rfl, by decide +kernel, by decide +kernel⟩
def spSrc (K : PySem.W.Frag) : Sp := fun vs H Q _ => ∃ (a : Addr) (ns : List Int) (k : Nat), vs = [.ref a, .int k] ∧ SqL K H a (ns.map V.int) ∧ k < 100 ∧
  ∀ p x y, H p = none → 0 ≤ x → 0 ≤ y → y < 2 ^ 160 → Q (.ref p) (upd H p (.lst [.int x, .int y, .int 0]))
abbrev sPick : Stmt := top 21
theorem scPick : FnScope ["source", "size", "found", "mixed"] ["source", "size"] (defScope sPick) := ⟨rfl, rfl, rfl, by decide +kernel, rfl, by decide +kernel, by decide +kernel⟩
def PotAt (H : Hp) (p : Addr) (n : Nat) : Prop := ∃ x y z : Int, H p = some (.lst [.int x, .int y, .int z]) ∧ 0 ≤ x ∧ 0 ≤ y ∧ y < 2 ^ 160 ∧ 0 ≤ z ∧ z ≤ n
def spPick : Sp := fun vs H Q _ => ∃ (p : Addr) (m : Int) (n : Nat), vs = [.ref p, .int m] ∧ PotAt H p n ∧ n < 2 ^ 40 ∧ 0 < m ∧ m < 2 ^ 62 ∧
  ∀ H' i, PotAt H' p (n + 1) → (∀ b, b ≠ p → H' b = H b) → 0 ≤ i → i < m → Q (.int i) H'
section
variable {P : Program} {w : World} {K : PySem.W.Frag} {mg : Str → Option Value} {base : Heap} {f c p1 : Addr} {fd : FuncData} {Ps : List Addr}
theorem ok_src (F : FunD K "_law_source" "_law_source" (defArgs sSrc) (defBody sSrc) (defScope sSrc) [] [] f fd) (gL : mg "len" = none) (gM : mg "max" = none) : FnOk P w K mg base CX0 1 f fd ["script", "k"] (spSrc K) := by
  refine F.ok scSrc (fun vs H Q E h => ?_) ?_
  · obtain ⟨a, ns, k, rfl, _⟩ := h
    rfl
  intro cdv A outer s H vs Q E hr h
  refine ⟨_, PSs.nox (pss_cons (ps_set (i := 2) scSrc.nd rfl (Or.inl rfl) pe_int)
    (pss_cons (ps_if (pt_cmpR op_lt (pv 1) (pe_callB call_len_seq rfl gL boot_len (pa_cons (pv 0) pa_nil)) (nomark _)) (pss_one (ps_set (i := 2) scSrc.nd rfl (Or.inl rfl) (pe_ix ix_list (pv 0) (pv 1) (fun _ _ => rfl)))) pss_nil)
    (pss_one (ps_ret (pe_lst (pa_cons (pe_callB (call_max2 rfl) rfl gM (by decide +kernel) (pa_cons pe_int (pa_cons (pe_op op_sub (pv 2) (pe_op op_pow pe_int pe_int)) pa_nil)))
      (pa_cons (pe_op op_add (pe_op op_add (pe_op op_mul (pe_op op_mod (pv 2) (pe_op op_add (pe_op op_pow pe_int pe_int) pe_int)) pe_int) (pe_op op_mul pe_int (pv 1))) pe_int) (pa_cons pe_int pa_nil)))))))), ?_⟩
  obtain ⟨a, ns, k, rfl, hS, hk, hQ⟩ := h
  have hM : (10 : Int) ^ (44 : Int).toNat + 9 = 100000000000000000000000000000000000000000009 := by decide
  refine ⟨_, rfl, _, rfl, a, _, rfl, .inl hS, _, _, rfl, rfl, _, rfl, ite2 (fun hlt => ?_) (fun _ => ?_)⟩
  · have hlt' : k < ns.length := by
      have := of_decide_eq_true hlt
      rw [List.length_map] at this
      omega
    have hv : (ns.map V.int)[k]? = some (.int ns[k]) := by
      rw [List.getElem?_map, List.getElem?_eq_getElem hlt']
      rfl
    refine ⟨_, rfl, _, rfl, a, _, _, _, rfl, rfl, hS, atI_nat hv, ?_⟩
    refine ⟨_, rfl, _, _, rfl, rfl, ⟨by decide, by decide, by decide⟩, _, _, rfl, rfl, _, _, rfl, ?_⟩
    refine ⟨_, rfl, _, _, rfl, rfl, ⟨by decide, by decide, by decide⟩, _, _, rfl, rfl, _, _, rfl, rfl, by show (0 : Int) < _ ; rw [hM]; decide, ?_⟩
    refine ⟨_, _, rfl, rfl, .inr ⟨by decide, by decide⟩, _, rfl, _, _, rfl, rfl, .inl ⟨by decide, by decide⟩, _, _, rfl, rfl, _, _, rfl, rfl, by show 3 ≤ sizeLine; decide, fun p hp => ?_⟩
    refine hQ p _ _ hp ?_ ?_ ?_
    · split <;> omega
    · rw [hM]; omega
    · rw [hM]; omega
  · refine ⟨_, rfl, _, _, rfl, rfl, ⟨by decide, by decide, by decide⟩, _, _, rfl, rfl, _, _, rfl, ?_⟩
    refine ⟨_, rfl, _, _, rfl, rfl, ⟨by decide, by decide, by decide⟩, _, _, rfl, rfl, _, _, rfl, rfl, by show (0 : Int) < _ ; rw [hM]; decide, ?_⟩
    refine ⟨_, _, rfl, rfl, .inr ⟨by decide, by decide⟩, _, rfl, _, _, rfl, rfl, .inl ⟨by decide, by decide⟩, _, _, rfl, rfl, _, _, rfl, rfl, by show 3 ≤ sizeLine; decide, fun p hp => ?_⟩
    refine hQ p _ _ hp ?_ ?_ ?_
    · split <;> omega
    · rw [hM]; omega
    · rw [hM]; omega
theorem ok_pick (F : FunD K "_law_pick" "_law_pick" (defArgs sPick) (defBody sPick) (defScope sPick) [] [] f fd) : FnOk P w K mg base CX0 1 f fd ["source", "size"] spPick := by
  refine F.ok scPick (fun vs H Q E h => ?_) ?_
  · obtain ⟨a, ns, k, rfl, _⟩ := h
    rfl
  intro cdv A outer s H vs Q E hr h
  refine ⟨_, PSs.nox (pss_cons (ps_if (pt_cmpR op_gt (pe_ix ix_list (pv 0) pe_int (fun _ _ => rfl)) pe_int (nomark _))
      (pss_cons (ps_set (i := 2) scPick.nd rfl (Or.inl rfl) (pe_op op_mod (pe_ix ix_list (pv 0) pe_int (fun _ _ => rfl)) (pv 1)))
      (pss_cons (ps_asg (pe_op op_fdivW (pe_ix ix_list (pv 0) pe_int (fun _ _ => rfl)) (pv 1)) (pg_sub (pv 0) pe_int set_list))
      (pss_one (ps_ret (pv 2))))) pss_nil)
    (pss_cons (ps_asg (pe_op op_add (pe_ix ix_list (pv 0) pe_int (fun _ _ => rfl)) pe_int) (pg_sub (pv 0) pe_int set_list))
    (pss_cons (ps_set (i := 3) scPick.nd rfl (Or.inl rfl) (pe_op op_mod (pe_op op_powW (pe_op op_add (pe_ix ix_list (pv 0) pe_int (fun _ _ => rfl)) (pe_op op_mul pe_int (pe_ix ix_list (pv 0) pe_int (fun _ _ => rfl)))) pe_int) (pe_op op_add (pe_op op_pow pe_int pe_int) pe_int)))
    (pss_cons (ps_set (i := 3) scPick.nd rfl (Or.inl rfl) (pe_op op_mod (pe_op op_powW (pe_op op_add (pv 3) (pe_op op_mul pe_int (pe_ix ix_list (pv 0) pe_int (fun _ _ => rfl)))) pe_int) (pe_op op_add (pe_op op_pow pe_int pe_int) pe_int)))
    (pss_one (ps_ret (pe_op op_mod (pe_op op_fdivN (pv 3) pe_int) (pv 1)))))))), ?_⟩
  obtain ⟨p, m, n, rfl, ⟨x, y, z, hp, x0, y0, y1, z0, z1⟩, hn, m0, m1, hQ⟩ := h
  have hA : (10 : Int) ^ (40 : Int).toNat + 121 = 10000000000000000000000000000000000000121 := by decide
  have hB : (10 : Int) ^ (41 : Int).toNat + 37 = 100000000000000000000000000000000000000037 := by decide
  have only : ∀ {H1 : Hp} {o : HO}, (∀ b, b ≠ p → H1 b = H b) → ∀ b, b ≠ p → upd H1 p o b = H b := fun h b hb => by rw [upd_ne hb]; exact h b hb
  refine ⟨_, rfl, p, _, _, _, rfl, rfl, .inl (.inl hp), atI_nat (j := 0) rfl, _, _, rfl, rfl, _, rfl, ite2 (fun hx => ?_) (fun hx => ?_)⟩
  · have hx0 : 0 < x := of_decide_eq_true hx
    refine ⟨_, rfl, p, _, _, _, rfl, rfl, .inl (.inl hp), atI_nat (j := 0) rfl, _, rfl, _, _, rfl, rfl, m0, ?_⟩
    refine ⟨_, rfl, p, _, _, _, rfl, rfl, .inl (.inl hp), atI_nat (j := 0) rfl, _, rfl, _, _, rfl, rfl, wide_div (b := 63) m0 (by omega) (by decide) (by decide), ?_⟩
    refine ⟨_, rfl, p, _, _, 0, rfl, rfl, hp, rfl, ?_⟩
    refine ⟨_, rfl, ?_⟩
    refine hQ _ _ ⟨_, _, _, upd_same, Int.ediv_nonneg x0 (Int.le_of_lt m0), y0, y1, z0, by omega⟩ (only fun _ _ => rfl) (Int.emod_nonneg _ (by omega)) (Int.emod_lt_of_pos _ m0)
  · refine ⟨_, rfl, p, _, _, _, rfl, rfl, .inl (.inl hp), atI_nat (j := 2) rfl, _, _, rfl, rfl, _, rfl, p, _, _, 2, rfl, rfl, hp, rfl, ?_⟩
    have hp1 : upd H p (.lst [.int x, .int y, .int (z + 1)]) p = some (.lst [.int x, .int y, .int (z + 1)]) := upd_same
    obtain ⟨H1, eH⟩ : ∃ H1, H1 = upd H p (.lst [.int x, .int y, .int (z + 1)]) := ⟨_, rfl⟩
    have o1 : ∀ b, b ≠ p → H1 b = H b := by rw [eH]; exact only fun _ _ => rfl
    rw [← eH] at hp1
    rw [← show H1 = upd H p (.lst ([V.int x, V.int y, V.int z].set 2 (V.int (z + 1)))) from eH]
    have b1 : (y + 433494437 * (z + 1)).natAbs < 2 ^ 170 := by omega
    have q1 : ((Builtin.Int.intBits (y + 433494437 * (z + 1)) : Nat) : Int) * 3 ≤ 2 ^ 27 := by
      have := intBits_le b1
      omega
    refine ⟨_, rfl, p, _, _, _, rfl, rfl, .inl (.inl hp1), atI_nat (j := 1) rfl, _, rfl, p, _, _, _, rfl, rfl, .inl (.inl hp1), atI_nat (j := 2) rfl, _, _, rfl, rfl, .inl ⟨by decide, by decide⟩, _, _, rfl, rfl, _, _, rfl, rfl, ⟨by decide, q1⟩,
      _, _, rfl, rfl, ⟨by decide, by decide, by decide⟩, _, _, rfl, rfl, _, _, rfl, rfl, by show (0 : Int) < _; rw [hA]; decide, ?_⟩
    obtain ⟨m1', em⟩ : ∃ v, v = (y + 433494437 * (z + 1)) ^ (3 : Int).toNat % ((10 : Int) ^ (40 : Int).toNat + 121) := ⟨_, rfl⟩
    show gName 3 (V.int ((y + 433494437 * (z + 1)) ^ (3 : Int).toNat % ((10 : Int) ^ (40 : Int).toNat + 121))) _ _ _
    rw [← em]
    have g0 : 0 ≤ m1' := by rw [em]; exact Int.emod_nonneg _ (by rw [hA]; decide)
    have g1 : m1' < 10000000000000000000000000000000000000121 := by
      rw [em, ← hA]
      exact Int.emod_lt_of_pos _ (by rw [hA]; decide)
    have b2 : (m1' + 2971215073 * (z + 1)).natAbs < 2 ^ 140 := by omega
    have q2 : ((Builtin.Int.intBits (m1' + 2971215073 * (z + 1)) : Nat) : Int) * 5 ≤ 2 ^ 27 := by
      have := intBits_le b2
      omega
    refine ⟨_, rfl, _, rfl, p, _, _, _, rfl, rfl, .inl (.inl hp1), atI_nat (j := 2) rfl, _, _, rfl, rfl, .inl ⟨by decide, by decide⟩, _, _, rfl, rfl, _, _, rfl, rfl, ⟨by decide, q2⟩,
      _, _, rfl, rfl, ⟨by decide, by decide, by decide⟩, _, _, rfl, rfl, _, _, rfl, rfl, by show (0 : Int) < _; rw [hB]; decide, ?_⟩
    refine ⟨_, rfl, _, _, rfl, rfl, ⟨by decide, by decide⟩, _, rfl, _, _, rfl, rfl, m0, ?_⟩
    exact hQ _ _ ⟨_, _, _, hp1, x0, y0, y1, by omega, by omega⟩ o1 (Int.emod_nonneg _ (by omega)) (Int.emod_lt_of_pos _ m0)
end
end A8
set_option Elab.async false
set_option linter.all false
set_option maxRecDepth 100000
set_option maxHeartbeats 4000000
namespace A8
open PySem PySem.Spec PyProof.Rows L2 AL
open GxR (TabB TabG Tabbed)
/-- all but the pot stays -/
def Kp (p : Addr) (H H' : Hp) : Prop := ∀ b o, b ≠ p → H b = some o → H' b = some o
theorem Kp.refl {p : Addr} {H : Hp} : Kp p H H := fun _ _ _ e => e
theorem Kp.trans {p : Addr} {H H1 H2 : Hp} (a : Kp p H H1) (b : Kp p H1 H2) : Kp p H H2 := fun c o n e => b c o n (a c o n e)
theorem Kp.of {p : Addr} {H H' : Hp} (h : ∀ b, b ≠ p → H' b = H b) : Kp p H H' := fun b o n e => (h b n).trans e
theorem Kp.new {p q : Addr} {H : Hp} {o : HO} (h : H q = none) : Kp p H (upd H q o) := fun b u _ e => by rw [upd_ne (ne_of_none e h)]; exact e
theorem Kp.put {p q : Addr} {H H1 : Hp} {o : HO} (k : Kp p H H1) (h : H q = none) : Kp p H (upd H1 q o) := fun b u n e => by rw [upd_ne (ne_of_none e h)]; exact k b u n e
theorem Kp.same {p : Addr} {H H1 : Hp} (h : Same H H1) : Kp p H H1 := fun b o _ e => h b o e
theorem Kp.free {p q : Addr} {H H1 : Hp} (k : Kp p H H1) (h : H1 q = none) (n : q ≠ p) : H q = none := by
  cases z : H q with
  | none => rfl
  | some o =>
    rw [k q o n z] at h
    cases h
theorem PotAt.upd {H : Hp} {p q : Addr} {n : Nat} {o : HO} (h : PotAt H p n) (ne : p ≠ q) : PotAt (upd H q o) p n := by
  obtain ⟨x, y, z, e, r⟩ := h
  exact ⟨x, y, z, by rw [upd_ne ne]; exact e, r⟩
theorem PotAt.ne {H : Hp} {p q : Addr} {n : Nat} (h : PotAt H p n) (hq : H q = none) : q ≠ p := fun z => by
  obtain ⟨x, y, z', e, _⟩ := h
  rw [z, e] at hq
  cases hq
theorem PotAt.ne' {H : Hp} {p q : Addr} {n : Nat} {o : HO} (h : PotAt H p n) (hq : H q = some o) (no : ∀ x y z : Int, o ≠ .lst [.int x, .int y, .int z]) : q ≠ p := fun z => by
  obtain ⟨x, y, z', e, _⟩ := h
  rw [z, e] at hq
  exact no x y z' (Option.some.inj hq).symm
theorem PotAt.mono {H : Hp} {p : Addr} {n m : Nat} (h : PotAt H p n) (l : n ≤ m) : PotAt H p m := by
  obtain ⟨x, y, z, e, a, b, c, d, f⟩ := h
  exact ⟨x, y, z, e, a, b, c, d, by omega⟩
theorem erase_map {α β : Type} (f : α → β) : ∀ (l : List α) (i : Nat), (l.map f).eraseIdx i = (l.eraseIdx i).map f
  | [], _ => rfl
  | _ :: _, 0 => rfl
  | a :: l, i + 1 => congrArg (f a :: ·) (erase_map f l i)
theorem erase_perm {α : Type} : ∀ (l : List α) (i : Nat) (y : α), l[i]? = some y → (y :: l.eraseIdx i).Perm l
  | a :: l, 0, y, h => by
    have e : a = y := Option.some.inj h
    rw [e]
    exact .refl _
  | a :: l, i + 1, y, h => (List.Perm.swap a y (l.eraseIdx i)).trans ((erase_perm l i y h).cons a)
theorem names_ne_pot {xs : List Str} (x y z : Int) : HO.lst (xs.map V.str) ≠ .lst [.int x, .int y, .int z] := fun e => by
  injection e with e
  cases xs with
  | nil => cases e
  | cons a xs => injection e with e1 _; cases e1
end A8
set_option Elab.async false
set_option linter.all false
set_option maxRecDepth 100000
set_option maxHeartbeats 4000000
namespace A8
open PySem PySem.Spec PyProof.Rows L2 AL
open GxR (TabB TabG Tabbed)
theorem snew {G : Hp} {x : Addr} {o : HO} (h : G x = none) : Same G (upd G x o) := fun b u e => by
  rw [upd_ne (ne_of_none e h)]
  exact e
theorem walk_str {x : Str} : Walk (Its x) x.cps.size (fun _ => True) (fun i H v H' => H' = H ∧ ∃ c, x.cps[i]? = some c ∧ v = .str ⟨#[c]⟩) := ⟨fun _ _ hi _ => hi, fun _ _ => Nat.le_refl _, fun _ _ _ _ _ _ y => y⟩
def letS : Str := "abcdefghijklmnopqrstuvwxyz"
def poolA : List Str := ["a", "b", "p", "g", "z", "ask", "net", "line", "none", "empty", "abcdefgh", "abcdefgi", "zzzzzzzz"]
def poolN : List Str := letS.cps.toList.map fun c => ("n" : Str) ++ (⟨#[c]⟩ : Str)
def poolK : List Str := letS.cps.toList.map fun c => ("k" : Str) ++ (⟨#[c]⟩ : Str)
def poolL : List Str := poolA ++ poolN ++ poolK
def nameB (x : Str) : Bool := decide (1 ≤ x.cps.size) && decide (x.cps.size ≤ 8) && x.cps.toList.all fun c => decide (97 ≤ c) && decide (c ≤ 122)
theorem nameB_ok {x : Str} (h : nameB x = true) : NameOk x := by
  unfold nameB at h
  rw [Bool.and_eq_true, Bool.and_eq_true, decide_eq_true_eq, decide_eq_true_eq] at h
  refine ⟨h.1.1, h.1.2, fun c hc => ?_⟩
  have := List.all_eq_true.mp h.2 c hc
  rw [Bool.and_eq_true, decide_eq_true_eq, decide_eq_true_eq] at this
  exact this
theorem pool_ok : ∀ x ∈ poolL, NameOk x := fun x hx => nameB_ok (List.all_eq_true.mp (show poolL.all nameB = true by decide +kernel) x hx)
theorem pool_nd : poolL.Nodup := by decide +kernel
theorem pool_len : poolL.length = 65 := by decide +kernel
abbrev sNames : Stmt := top 22
abbrev nNames : List Str := ["source", "size", "pool", "letters", "letter", "turn"]
theorem scNames : FnScope nNames ["source", "size"] (defScope sNames) := ⟨rfl, rfl, rfl, by decide +kernel, rfl, by decide +kernel, by decide +kernel⟩
def spNames : Sp := fun vs H Q _ => ∃ (p : Addr) (m n : Nat), vs = [.ref p, .int m] ∧ PotAt H p n ∧ n + m < 2 ^ 40 ∧ m ≤ 65 ∧
  ∀ (H' : Hp) (q : Addr) (ys rest : List Str), Kp p H H' → H q = none → H' q = some (.lst (ys.map V.str)) → PotAt H' p (n + m) → (ys ++ rest).Perm poolL → ys.length = m → Q (.ref q) H'
section
variable {P : Program} {w : World} {K : PySem.W.Frag} {mg : Str → Option Value} {base : Heap} {f c p1 : Addr} {fd : FuncData} {Ps : List Addr}
theorem ok_names (F : FunD K "_law_names" "_law_names" (defArgs sNames) (defBody sNames) (defScope sNames) [] [] f fd) (cT : Cal P w K mg base 1 "_law_pick" spPick) (gL : mg "len" = none) (gR : mg "range" = none) : FnOk P w K mg base CX0 2 f fd ["source", "size"] spNames := by
  refine F.ok scNames (fun vs H Q E h => ?_) ?_
  · obtain ⟨p, m, n, rfl, _⟩ := h
    rfl
  intro cdv A outer s H vs Q E hr h
  refine ⟨_, PSs.nox (pss_cons (ps_set (i := 2) scNames.nd rfl (Or.inr rfl) (pe_lst (pa_cons pe_str (pa_cons pe_str (pa_cons pe_str (pa_cons pe_str (pa_cons pe_str (pa_cons pe_str (pa_cons pe_str (pa_cons pe_str (pa_cons pe_str (pa_cons pe_str (pa_cons pe_str (pa_cons pe_str (pa_cons pe_str pa_nil)))))))))))))))
    (pss_cons (ps_set (i := 3) scNames.nd rfl (Or.inl rfl) pe_str)
    (pss_cons (ps_set (i := 2) scNames.nd rfl (Or.inr rfl) (pe_op op_cat (pe_op op_cat (pv 2)
      (pe_lc (own := [("letter", 4)]) (g := gName 4) (tt := tYes) rfl scNames.nd (pi_str (pv 3)) (blkOk_by (N := nNames) (sc := defScope sNames) (by decide +kernel)) (fun _ _ _ _ _ => pg_name (i := 4) scNames.nd rfl (Or.inl rfl)) (fun _ _ _ _ _ => pts_nil) (fun _ _ _ _ _ => pe_op op_add_str pe_str (pv 4))))
      (pe_lc (own := [("letter", 4)]) (g := gName 4) (tt := tYes) rfl scNames.nd (pi_str (pv 3)) (blkOk_by (N := nNames) (sc := defScope sNames) (by decide +kernel)) (fun _ _ _ _ _ => pg_name (i := 4) scNames.nd rfl (Or.inl rfl)) (fun _ _ _ _ _ => pts_nil) (fun _ _ _ _ _ => pe_op op_add_str pe_str (pv 4)))))
    (pss_one (ps_ret (pe_lc (own := [("turn", 5)]) (g := gName 5) (tt := tYes) (te := tBM K "list" rPopAt (tVar 2) (tCons (tCall spPick [] E0 (tCons (tVar 0) (tCons (tCB (rLenQ K) (tCons (tVar 2) tNil)) tNil))) tNil)) rfl scNames.nd (pi_range1 rfl gR (pa_cons (pv 1) pa_nil)) (blkOk_by (N := nNames) (sc := defScope sNames) (by decide +kernel))
      (fun _ _ _ _ _ => pg_name (i := 5) scNames.nd rfl (Or.inl rfl)) (fun _ _ _ _ _ => pts_nil)
      (fun _ _ _ _ _ => pe_bm PySem.F.plainAttrs_list PySem.F.slot_list_pop PySem.F.type_list_pop mt_popAt (pv 2) (pa_cons (pe_c cT hr (by decide) rfl (pa_cons (pv 0) (pa_cons (pe_callB call_len_seq rfl gL boot_len (pa_cons (pv 2) pa_nil)) pa_nil))) pa_nil)))))))), ?_⟩
  obtain ⟨p, m, n, rfl, hP, hn, hm, hQ⟩ := h
  refine seq_asg (fun v H1 => ∃ a, v = .ref a ∧ Same H H1 ∧ H1 a = some (.lst (poolA.map V.str))) (fun Q' hQ' => ?_) ?_
  · exact ⟨by show 13 ≤ sizeLine; decide, fun l hl => hQ' _ _ ⟨l, rfl, snew hl, upd_same⟩⟩
  rintro _ H1 ⟨l0, rfl, s1, h1⟩
  refine seq_asg (fun v H1' => v = .str letS ∧ H1 = H1') (fun Q' hQ' => hQ' _ _ ⟨rfl, rfl⟩) ?_
  rintro _ _ ⟨rfl, rfl⟩
  refine seq_asg (fun v H2 => ∃ a, v = .ref a ∧ Same H1 H2 ∧ H1 a = none ∧ H2 a = some (.lst (poolL.map V.str))) (fun Q' hQ' => ?_) ?_
  · refine ⟨_, rfl, _, rfl, letS, rfl, fun D hD => ?_⟩
    have grow : ∀ (G : Hp) (D : Addr) (z : Str) (zs : List Str), zs = (letS.cps.toList.map fun c => z ++ (⟨#[c]⟩ : Str)) → zs.length = 26 → ∀ i, i < 26 → ∀ ch, letS.cps[i]? = some ch → upd G D (.lst ((zs.take i).map V.str ++ [.str (z ++ ⟨#[ch]⟩)])) = upd G D (.lst ((zs.take (i + 1)).map V.str)) := by
      intro G D z zs e hl i hi ch hc
      have e2 : zs[i]? = some (z ++ (⟨#[ch]⟩ : Str)) := by
        rw [e, List.getElem?_map, Array.getElem?_toList, hc]
        rfl
      rw [List.take_succ, e2, List.map_append]
      rfl
    have l26 : letS.cps.size = 26 := by decide +kernel
    have nl : poolN.length = 26 := by decide +kernel
    have kl : poolK.length = 26 := by decide +kernel
    refine lc_it walk_str (fun i H' => H' = upd H1 D (.lst ((poolN.take i).map V.str))) rfl (fun _ _ _ _ => trivial) ?_ ?_
    · rintro i x H' H'' hi rfl ⟨rfl, ch, hc, rfl⟩
      rw [l26] at hi
      refine ⟨rfl, _, rfl, _, _, rfl, rfl, by show 1 + 1 ≤ sizeLine; rw [sizeLine_eq]; omega, _, upd_same, ?_, ?_⟩
      · rw [List.length_map, List.length_take, sizeLine_eq]
        omega
      · rw [upd_upd]
        exact grow H1 D "n" poolN rfl nl i hi ch hc
    · rintro H' rfl
      have e : poolN.take letS.cps.size = poolN := List.take_of_length_le (by rw [nl, l26]; exact Nat.le_refl _)
      rw [e]
      have a2 : Same H1 (upd H1 D (.lst (poolN.map V.str))) := snew hD
      have b2 : upd H1 D (.lst (poolN.map V.str)) D = some (.lst (poolN.map V.str)) := upd_same
      generalize upd H1 D (.lst (poolN.map V.str)) = H2 at a2 b2
      refine ⟨l0, D, _, _, rfl, rfl, a2 _ _ h1, b2, by rw [sizeLine_eq]; decide +kernel, fun c1 hc1 => ?_⟩
      have a3 : Same H2 (upd H2 c1 (.lst (poolA.map V.str ++ poolN.map V.str))) := snew hc1
      have b3 : upd H2 c1 (.lst (poolA.map V.str ++ poolN.map V.str)) c1 = some (.lst ((poolA ++ poolN).map V.str)) := by rw [upd_same, List.map_append]
      generalize upd H2 c1 (.lst (poolA.map V.str ++ poolN.map V.str)) = H3 at a3 b3
      refine ⟨_, rfl, letS, rfl, fun D2 hD2 => ?_⟩
      refine lc_it walk_str (fun i H' => H' = upd H3 D2 (.lst ((poolK.take i).map V.str))) rfl (fun _ _ _ _ => trivial) ?_ ?_
      · rintro i x H' H'' hi rfl ⟨rfl, ch, hc, rfl⟩
        rw [l26] at hi
        refine ⟨rfl, _, rfl, _, _, rfl, rfl, by show 1 + 1 ≤ sizeLine; rw [sizeLine_eq]; omega, _, upd_same, ?_, ?_⟩
        · rw [List.length_map, List.length_take, sizeLine_eq]
          omega
        · rw [upd_upd]
          exact grow H3 D2 "k" poolK rfl kl i hi ch hc
      · rintro H' rfl
        have e' : poolK.take letS.cps.size = poolK := List.take_of_length_le (by rw [kl, l26]; exact Nat.le_refl _)
        rw [e']
        have a4 : Same H3 (upd H3 D2 (.lst (poolK.map V.str))) := snew hD2
        have b4 : upd H3 D2 (.lst (poolK.map V.str)) D2 = some (.lst (poolK.map V.str)) := upd_same
        generalize upd H3 D2 (.lst (poolK.map V.str)) = H4 at a4 b4
        refine ⟨c1, D2, _, _, rfl, rfl, a4 _ _ b3, b4, by rw [sizeLine_eq]; decide +kernel, fun a ha => ?_⟩
        refine hQ' _ _ ⟨a, rfl, a2.trans (a3.trans (a4.trans (snew ha))), (a2.trans (a3.trans a4)).free ha, ?_⟩
        rw [upd_same, ← List.map_append]
        rfl
  rintro _ H2 ⟨L, rfl, s2, hL1, hL2⟩
  have s02 : Same H H2 := s1.trans s2
  have hP1 : PotAt H2 p n := by
    obtain ⟨x, y, z, e, r⟩ := hP
    exact ⟨x, y, z, s02 _ _ e, r⟩
  have k1 : Kp p H H2 := .same s02
  have Lp : L ≠ p := hP1.ne' hL2 names_ne_pot
  have hL : H L = none := s1.free hL1
  refine ⟨_, rfl, (m : Int), rfl, by omega, by omega, fun D hD => ?_⟩
  have Dp : D ≠ p := hP1.ne hD
  have DL : D ≠ L := fun z => by rw [z, hL2] at hD; cases hD
  have HD : H D = none := k1.free hD Dp
  refine lc_range (lo := 0) (n := (m : Int).toNat) (fun i H' => ∃ ys rest : List Str, Kp p H H' ∧ H' D = some (.lst (ys.map V.str)) ∧ H' L = some (.lst (rest.map V.str)) ∧ PotAt H' p (n + i) ∧ (ys ++ rest).Perm poolL ∧ ys.length = i)
    ⟨[], poolL, k1.put HD, upd_same, by rw [upd_ne (Ne.symm DL)]; exact hL2, hP1.upd (Ne.symm Dp), .refl _, rfl⟩ ?_ ?_
  · rintro i H' hi ⟨ys, rest, k, hd, hl, hp, pm, le⟩
    have hi' : i < m := by omega
    have hlen : ys.length + rest.length = 65 := by
      have := pm.length_eq
      rw [List.length_append, pool_len] at this
      exact this
    refine ⟨rfl, _, rfl, .inl ⟨rfl, _, .inl (.inl hl)⟩, _, rfl, _, rfl, L, _, rfl, .inl (.inl (.inl hl)), p, _, n + i, rfl, hp, by omega, ?_, ?_, fun H2 j hp2 only j0 j1 => ?_⟩
    · rw [List.length_map]; omega
    · rw [List.length_map]; omega
    · have hl2 : H2 L = some (.lst (rest.map V.str)) := (only L Lp).trans hl
      have hd2 : H2 D = some (.lst (ys.map V.str)) := (only D Dp).trans hd
      rw [List.length_map] at j1
      obtain ⟨jn, rfl⟩ : ∃ jn : Nat, j = jn := ⟨j.toNat, (Int.toNat_of_nonneg j0).symm⟩
      have jl : jn < rest.length := by omega
      obtain ⟨y, hy⟩ : ∃ y, rest[jn]? = some y := ⟨_, List.getElem?_eq_getElem jl⟩
      refine ⟨L, rest.map V.str, jn, jn, .str y, rfl, rfl, hl2, by omega, by omega, ?_, by rw [List.getElem?_map, hy]; rfl, ?_⟩
      · exact (ixN_seq (show ixN (rest.map V.str).length (jn : Int) = some jn from by
          unfold ixN
          rw [if_pos (by omega), if_pos (by rw [List.length_map]; omega), Int.toNat_natCast])).1
      · rw [erase_map]
        refine ⟨ys.map V.str, by rw [upd_ne DL]; exact hd2, by rw [List.length_map, sizeLine_eq]; omega, ys ++ [y], rest.eraseIdx jn, ?_, ?_, ?_, ?_, ?_, ?_⟩
        · exact ((k.trans (Kp.of only)).put hL).put HD
        · rw [upd_same, List.map_append]
          rfl
        · rw [upd_ne (Ne.symm DL)]
          exact upd_same
        · exact (hp2.upd (Ne.symm Lp)).upd (Ne.symm Dp)
        · rw [List.append_assoc]
          exact ((erase_perm rest jn y hy).append_left ys).trans pm
        · rw [List.length_append, le]
          rfl
  · rintro H' ⟨ys, rest, k, hd, hl, hp, pm, le⟩
    rw [Int.toNat_natCast] at hp le
    exact hQ H' D ys rest k HD hd hp pm le
end
end A8
set_option Elab.async false
set_option linter.all false
set_option maxRecDepth 100000
set_option maxHeartbeats 4000000
namespace A8
open PySem PySem.Spec PyProof.Rows L2 AL
open GxR (TabB TabG Tabbed)
abbrev sTree : Stmt := top 23
abbrev nTree : List Str := ["source", "most", "names", "shape", "found", "at", "near", "to", "name"]
theorem scTree : FnScope nTree ["source", "most"] (defScope sTree) := ⟨rfl, rfl, rfl, by decide +kernel, rfl, by decide +kernel, by decide +kernel⟩
def spTree : Sp := fun vs H Q _ => ∃ (p : Addr) (m n : Nat), vs = [.ref p, .int m] ∧ PotAt H p n ∧ n + 300 < 2 ^ 40 ∧ 1 ≤ m ∧ m ≤ 40 ∧
  ∀ (H' : Hp) (d : Addr) (t : List Row), Kp p H H' → H d = none → H' d = some (.dK (kvsOf t)) → RowsAt H' t → OkTree t → t.length ≤ m → (∀ r ∈ t, r.1 ∈ poolL) → (t.map (·.2.1)).Nodup → (∀ r ∈ t, H r.2.1 = none) → PotAt H' p (n + 300) → Q (.ref d) H'
theorem mergeK_rows : ∀ {t u : List Row}, ((u ++ t).map (·.1)).Nodup → mergeK (kvsOf u) (kvsOf t) = kvsOf (u ++ t)
  | [], u, _ => by rw [List.append_nil]; rfl
  | r :: t, u, nd => by
    have hn : valV (kvsOf u) (Sum.inr r.1) = none := by
      cases q : valV (kvsOf u) (Sum.inr r.1) with
      | none => rfl
      | some v =>
        have hm : (Sum.inr r.1 : Key) ∈ (kvsOf u).map (·.1) := valV_in q
        rw [kvsOf, List.map_map] at hm
        obtain ⟨s, hs, e⟩ := List.mem_map.mp hm
        rw [List.map_append, List.nodup_append] at nd
        exact (nd.2.2 s.1 (List.mem_map.mpr ⟨s, hs, rfl⟩) r.1 List.mem_cons_self (Sum.inr.inj e)).elim
    have e1 : putK (kvsOf u) (Sum.inr r.1) (.ref r.2.1) = kvsOf (u ++ [r]) := by
      rw [putK_new _ hn, kvsOf, kvsOf, List.map_append]
      rfl
    show mergeK (putK (kvsOf u) (Sum.inr r.1) (.ref r.2.1)) (kvsOf t) = _
    rw [e1, mergeK_rows (u := u ++ [r]) (by rw [List.append_assoc]; exact nd), List.append_assoc]
    rfl
theorem mergeK_rows0 {t : List Row} (nd : (t.map (·.1)).Nodup) : mergeK [] (kvsOf t) = kvsOf t := mergeK_rows (u := []) nd
abbrev TupsAt (H : Hp) (tps : List Addr) (t : List Row) : Prop := Paired (fun a (r : Row) => H a = some (.tup [.str r.1, .ref r.2.1])) tps t
theorem TupsAt.keep {H H' : Hp} {ts : List Addr} {rs : List Row} (h : TupsAt H ts rs) (k : ∀ b xs, H b = some (.tup xs) → H' b = some (.tup xs)) : TupsAt H' ts rs := by
  unfold TupsAt at h ⊢
  induction h with
  | nil => exact .nil
  | cons h _ ih => exact .cons (k _ _ h) ih
theorem TupsAt.snoc {H : Hp} {ts : List Addr} {rs : List Row} {a : Addr} {r : Row} (h : TupsAt H ts rs) (e : H a = some (.tup [.str r.1, .ref r.2.1])) : TupsAt H (ts ++ [a]) (rs ++ [r]) := by
  unfold TupsAt at h ⊢
  induction h with
  | nil => exact .cons e .nil
  | cons h _ ih => exact .cons h ih
theorem TupsAt.len {H : Hp} {ts : List Addr} {rs : List Row} (h : TupsAt H ts rs) : ts.length = rs.length := by
  unfold TupsAt at h
  induction h with
  | nil => rfl
  | cons _ _ ih => rw [List.length_cons, List.length_cons, ih]
theorem TupsAt.pairs {K : PySem.W.Frag} {H : Hp} {ts : List Addr} {rs : List Row} (h : TupsAt H ts rs) : Paired (fun (p : Addr) (kv : Key × V) => SqT K H p [kV kv.1, kv.2]) ts (kvsOf rs) := by
  unfold TupsAt at h
  induction h with
  | nil => exact .nil
  | cons h _ ih => exact .cons (.inl (.inl h)) ih
/-- the dict of lists while it grows -/
structure Near (H : Hp) (N : Addr) (ns : List Str) (zs : List Row) (adj : Nat → List Nat) : Prop where
  d : H N = some (.dK (kvsOf zs))
  nm : zs.map (·.1) = ns
  ad : (zs.map (·.2.1)).Nodup
  at_ : ∀ v r, zs[v]? = some r → H r.2.1 = some (.lst (((adj v).map (nmAt ns)).map V.str))
theorem Near.row {H : Hp} {N : Addr} {ns : List Str} {zs : List Row} {adj : Nat → List Nat} (h : Near H N ns zs adj) {v : Nat} (hv : v < ns.length) : ∃ r, zs[v]? = some r ∧ r ∈ zs ∧ r.1 = nmAt ns v := by
  have hv' : v < zs.length := by
    rw [← h.nm, List.length_map] at hv
    exact hv
  refine ⟨zs[v], List.getElem?_eq_getElem hv', List.getElem_mem hv', ?_⟩
  have e : (zs.map (·.1))[v]? = some zs[v].1 := by rw [List.getElem?_map, List.getElem?_eq_getElem hv']; rfl
  rw [h.nm] at e
  rw [nmAt, List.getD_eq_getElem?_getD, e]
  rfl
theorem Near.get {H : Hp} {N : Addr} {ns : List Str} {zs : List Row} {adj : Nat → List Nat} (h : Near H N ns zs adj) (nd : ns.Nodup) {r : Row} (hr : r ∈ zs) : DGet H N (.str r.1) (some (.ref r.2.1)) :=
  .inl ⟨_, Sum.inr r.1, .inl h.d, rfl, (valV_row hr (by rw [h.nm]; exact nd)).symm⟩
theorem Near.addr {H : Hp} {N : Addr} {ns : List Str} {zs : List Row} {adj : Nat → List Nat} (h : Near H N ns zs adj) {v u : Nat} {r s : Row} (hr : zs[v]? = some r) (hs : zs[u]? = some s) (e : r.2.1 = s.2.1) : v = u := by
  obtain ⟨lv, ev⟩ := List.getElem?_eq_some_iff.mp hr
  obtain ⟨lu, eu⟩ := List.getElem?_eq_some_iff.mp hs
  have l1 : v < (zs.map (·.2.1)).length := by rw [List.length_map]; exact lv
  have l2 : u < (zs.map (·.2.1)).length := by rw [List.length_map]; exact lu
  refine (List.getElem_inj (h₀ := l1) (h₁ := l2) h.ad).mp ?_
  rw [List.getElem_map, List.getElem_map, ev, eu, e]
/-- one more name in the list of v -/
theorem Near.add {H : Hp} {N : Addr} {ns : List Str} {zs : List Row} {adj : Nat → List Nat} (h : Near H N ns zs adj) {v u : Nat} {r : Row} (hr : zs[v]? = some r) :
    Near (upd H r.2.1 (.lst (((adj v).map (nmAt ns)).map V.str ++ [.str (nmAt ns u)]))) N ns zs fun w => if w = v then adj w ++ [u] else adj w where
  d := by
    rw [upd_ne fun z => ?_]
    · exact h.d
    · have := h.at_ v r hr
      rw [← z, h.d] at this
      cases this
  nm := h.nm
  ad := h.ad
  at_ := fun w s hs => by
    by_cases e : w = v
    · rw [e, hr] at hs
      cases hs
      rw [e, upd_same, if_pos rfl, List.map_append, List.map_append]
      rfl
    · rw [if_neg e, upd_ne fun z => e (h.addr hs hr z)]
      exact h.at_ w s hs
theorem Near.keep {p : Addr} {H H' : Hp} {N : Addr} {ns : List Str} {zs : List Row} {adj : Nat → List Nat} {n : Nat} (h : Near H N ns zs adj) (hp : PotAt H p n) (k : Kp p H H') : Near H' N ns zs adj :=
  ⟨k _ _ (hp.ne' h.d fun _ _ _ z => by cases z) h.d, h.nm, h.ad, fun v r hr => k _ _ (hp.ne' (h.at_ v r hr) names_ne_pot) (h.at_ v r hr)⟩
theorem at_nm {ns : List Str} {v : Nat} (h : v < ns.length) : atI (ns.map V.str) (v : Int) = some (.str (nmAt ns v)) := atI_nat (by
  rw [List.getElem?_map, List.getElem?_eq_getElem h, nmAt_eq h]
  rfl)
section
variable {P : Program} {w : World} {K : PySem.W.Frag} {mg : Str → Option Value} {base : Heap} {f c p1 : Addr} {fd : FuncData} {Ps : List Addr}
theorem ok_tree (F : FunD K "_law_tree" "_law_tree" (defArgs sTree) (defBody sTree) (defScope sTree) [] [] f fd) (cT : Cal P w K mg base 1 "_law_pick" spPick) (cS : Cal P w K mg base 2 "_law_names" spNames)
    (gR : mg "range" = none) (gL : mg "len" = none) (gM : mg "max" = none) (gS : mg "sorted" = none) (gD : mg "dict" = none) : FnOk P w K mg base CX0 3 f fd ["source", "most"] spTree := by
  refine F.ok scTree (fun vs H Q E h => ?_) ?_
  · obtain ⟨p, m, n, rfl, _⟩ := h
    rfl
  intro cdv A outer s H vs Q E hr h
  refine ⟨_, PSs.nox (pss_cons (ps_set (i := 2) scTree.nd rfl (Or.inl rfl) (pe_c cS hr (by decide) rfl (pa_cons (pv 0) (pa_cons (pe_op op_add pe_int (pe_c cT hr (by decide) rfl (pa_cons (pv 0) (pa_cons (pv 1) pa_nil)))) pa_nil))))
    (pss_cons (ps_set (i := 3) scTree.nd rfl (Or.inl rfl) (pe_c cT hr (by decide) rfl (pa_cons (pv 0) (pa_cons pe_int pa_nil))))
    (pss_cons (ps_set (i := 4) scTree.nd rfl (Or.inr rfl) (pe_callTy (call_dictP rfl) rfl gD (by decide +kernel) (pa_cons
      (pe_lc (own := [("name", 8)]) (g := gName 8) (tt := tYes) rfl scTree.nd (pi_list (pv 2)) (blkOk_by (N := nTree) (sc := defScope sTree) (by decide +kernel)) (fun _ _ _ _ _ => pg_name (i := 8) scTree.nd rfl (Or.inl rfl)) (fun _ _ _ _ _ => pts_nil) (fun _ _ _ _ _ => pe_tup (pa_cons (pv 8) (pa_cons (pe_lst pa_nil) pa_nil)))) pa_nil)))
    (pss_cons (ps_for PassesOwn.never rfl (pi_range2 rfl gR (pa_cons pe_int (pa_cons (pe_callB call_len_seq rfl gL boot_len (pa_cons (pv 2) pa_nil)) pa_nil))) (pg_name (i := 5) scTree.nd rfl (Or.inl rfl))
      (pss_cons (ps_set (i := 6) scTree.nd rfl (Or.inl rfl) (pe_callB (call_max2 rfl) rfl gM (by decide +kernel) (pa_cons pe_int (pa_cons (pe_op op_sub (pe_op op_sub (pv 5) pe_int) (pe_c cT hr (by decide) rfl (pa_cons (pv 0) (pa_cons pe_int pa_nil)))) pa_nil))))
      (pss_cons (ps_set (i := 7) scTree.nd rfl (Or.inl rfl) (pe_ix ix_list (pe_lst (pa_cons (pe_op op_sub (pv 5) pe_int) (pa_cons pe_int (pa_cons (pe_c cT hr (by decide) rfl (pa_cons (pv 0) (pa_cons (pv 5) pa_nil))) (pa_cons (pv 6) pa_nil))))) (pv 3) (fun _ _ => rfl)))
      (pss_cons (ps_expr (pe_bm PySem.F.plainAttrs_list PySem.F.slot_list_append PySem.F.type_list_append mt_append (pe_dget (hu_of hr) (pv 4) (pe_ix ix_list (pv 2) (pv 5) (fun _ _ => rfl)) (fun _ _ => rfl)) (pa_cons (pe_ix ix_list (pv 2) (pv 7) (fun _ _ => rfl)) pa_nil)))
      (pss_one (ps_expr (pe_bm PySem.F.plainAttrs_list PySem.F.slot_list_append PySem.F.type_list_append mt_append (pe_dget (hu_of hr) (pv 4) (pe_ix ix_list (pv 2) (pv 7) (fun _ _ => rfl)) (fun _ _ => rfl)) (pa_cons (pe_ix ix_list (pv 2) (pv 5) (fun _ _ => rfl)) pa_nil))))))))
    (pss_one (ps_ret (pe_callTy (call_dictP rfl) rfl gD (by decide +kernel) (pa_cons
      (pe_lc (own := [("name", 8)]) (g := gName 8) (tt := tYes) (te := tTup (tCons (tVar 8) (tCons (tCB (rSortedS K) (tCons (tDGet (tVar 4) (tVar 8)) tNil)) tNil))) rfl scTree.nd (pi_list (pv 2)) (blkOk_by (N := nTree) (sc := defScope sTree) (by decide +kernel))
        (fun _ _ _ _ _ => pg_name (i := 8) scTree.nd rfl (Or.inl rfl)) (fun _ _ _ _ _ => pts_nil) (fun _ _ _ _ _ => pe_tup (pa_cons (pv 8) (pa_cons (pe_callB cr_sortedS rfl gS (by decide +kernel) (pa_cons (pe_dget (hu_of hr) (pv 4) (pv 8) (fun _ _ => rfl)) pa_nil)) pa_nil)))) pa_nil)))))))), ?_⟩
  obtain ⟨p, m, n, rfl, hP, hn, m1, m39, hQ⟩ := h
  -- names
  refine ⟨_, rfl, _, rfl, _, rfl, p, m, n, rfl, hP, by omega, by omega, by omega, fun H1 iz hp1 only1 i0 i1 => ?_⟩
  obtain ⟨i, rfl⟩ : ∃ i : Nat, iz = i := ⟨iz.toNat, (Int.toNat_of_nonneg i0).symm⟩
  refine ⟨_, _, rfl, rfl, p, 1 + i, n + 1, ?_, hp1, by omega, by omega, fun H2 NS ns rest k2 hNS0 hNS hp2 pm2 le2 => ?_⟩
  · show [V.ref p, V.int (1 + (i : Int))] = [V.ref p, V.int ((1 + i : Nat) : Int)]
    rw [Int.natCast_add]
    rfl
  have k02 : Kp p H H2 := (Kp.of only1).trans k2
  have nsn : ns.Nodup := (List.nodup_append.mp (pm2.symm.nodup pool_nd)).1
  have nsp : ∀ x ∈ ns, x ∈ poolL := fun x hx => pm2.subset (List.mem_append_left _ hx)
  have nsok : ∀ x ∈ ns, NameOk x := fun x hx => pool_ok x (nsp x hx)
  have NSp : NS ≠ p := hp2.ne' hNS names_ne_pot
  -- shape, found
  refine ⟨_, rfl, p, 4, n + 1 + (1 + i), rfl, hp2, by omega, by decide, by decide, fun H3 w hp3 only3 w0 w1 => ?_⟩
  have hNS3 : H3 NS = some (.lst (ns.map V.str)) := (only3 NS NSp).trans hNS
  have k3 : Kp p H H3 := k02.trans (Kp.of only3)
  refine ⟨_, rfl, NS, rfl, ⟨_, .inl (.inl hNS3)⟩, fun D hD => ?_⟩
  have Dp : D ≠ p := hp3.ne hD
  have DNS : NS ≠ D := ne_of_none hNS3 hD
  refine lc_list (K := K) (xs := ns.map V.str) (fun i H' => ∃ (zs : List Row) (tps : List Addr), Same H3 H' ∧ H' D = some (.lst (tps.map V.ref)) ∧ zs.map (·.1) = ns.take i ∧ (zs.map (·.2.1)).Nodup ∧ TupsAt H' tps zs ∧ (∀ r ∈ zs, H' r.2.1 = some (.lst [])) ∧ ∀ r ∈ zs, H3 r.2.1 = none)
    ⟨[], [], snew hD, upd_same, rfl, .nil, .nil, fun r hr => absurd hr List.not_mem_nil, fun r hr => absurd hr List.not_mem_nil⟩ (fun i H' _ ⟨_, _, sm, _⟩ => .inl (.inl (sm _ _ hNS3))) ?_ ?_
  · rintro i x H' hx ⟨zs, tps, sm, hd, hnm, had, htp, hls, hfr⟩
    rw [List.getElem?_map] at hx
    cases hy : ns[i]? with
    | none => rw [hy] at hx; cases hx
    | some y =>
      rw [hy] at hx
      cases hx
      have hi : i < ns.length := (List.getElem?_eq_some_iff.mp hy).1
      refine ⟨rfl, _, rfl, by show 0 ≤ sizeLine; exact Nat.zero_le _, fun l hl => ⟨by show 2 ≤ sizeLine; decide, fun tp htp0 => ?_⟩⟩
      have tl : tp ≠ l := fun z => by rw [z, upd_same] at htp0; cases htp0
      have htp1 : H' tp = none := by rw [upd_ne tl] at htp0; exact htp0
      have Dl : D ≠ l := ne_of_none hd hl
      have Dt : D ≠ tp := ne_of_none hd htp1
      have len : tps.length = i := by
        have e := congrArg List.length hnm
        rw [List.length_map, List.length_take] at e
        rw [htp.len]
        omega
      refine ⟨tps.map V.ref, by rw [upd_ne Dt, upd_ne Dl]; exact hd, by rw [List.length_map, len, sizeLine_eq]; omega, zs ++ [(y, l, [])], tps ++ [tp], fun b o e => ?_, ?_, ?_, ?_, ?_, fun r hr => ?_, fun r hr => ?_⟩
      · rw [upd_ne (ne_of_none e hD), upd_ne (ne_of_none (sm _ _ e) htp1), upd_ne (ne_of_none (sm _ _ e) hl)]
        exact sm _ _ e
      · rw [upd_same, List.map_append]
        rfl
      · rw [List.map_append, hnm, List.take_succ, hy]
        rfl
      · rw [List.map_append]
        refine List.nodup_append.mpr ⟨had, by simp, fun a ha b hb e => ?_⟩
        obtain ⟨r, hr, er⟩ := List.mem_map.mp ha
        have := hls r hr
        rw [er, e, show b = l from List.mem_singleton.mp hb, hl] at this
        cases this
      · refine TupsAt.snoc (htp.keep fun b xs e => ?_) ?_
        · have z2 : b ≠ D := fun z => by rw [z, hd] at e; cases e
          rw [upd_ne z2, upd_ne (ne_of_none e htp1), upd_ne (ne_of_none e hl)]
          exact e
        · rw [upd_ne (Ne.symm Dt)]
          exact upd_same
      · rcases List.mem_append.mp hr with z | z
        · have e := hls r z
          have z2 : r.2.1 ≠ D := fun q => by
            have := hfr r z
            have h3 := hls r z
            rw [q, hd] at h3
            injection h3 with h3
            injection h3 with h3
            rw [List.map_eq_nil_iff] at h3
            rw [h3] at htp
            unfold TupsAt at htp
            cases htp
            exact absurd z List.not_mem_nil
          rw [upd_ne z2, upd_ne (ne_of_none e htp1), upd_ne (ne_of_none e hl)]
          exact e
        · rw [List.mem_singleton.mp z]
          rw [upd_ne (Ne.symm Dl), upd_ne (Ne.symm tl)]
          exact upd_same
      · rcases List.mem_append.mp hr with z | z
        · exact hfr r z
        · rw [List.mem_singleton.mp z]
          exact sm.free hl
  rintro H4 ⟨zs, tps, sm4, hd4, hnm, had, htp, hls, hfr⟩
  rw [List.length_map, List.take_length] at hnm
  refine ⟨D, tps, kvsOf zs, rfl, .inl (.inl hd4), htp.pairs, fun N hN => ?_⟩
  rw [mergeK_rows0 (by rw [hnm]; exact nsn)]
  have s5 : Same H4 (upd H4 N (.dK (kvsOf zs))) := snew hN
  have hN5 : upd H4 N (.dK (kvsOf zs)) N = some (.dK (kvsOf zs)) := upd_same
  generalize upd H4 N (.dK (kvsOf zs)) = H5 at s5 hN5
  have s35 : Same H3 H5 := sm4.trans s5
  have hp5 : PotAt H5 p (n + 1 + (1 + i) + 1) := by
    obtain ⟨x, y, z, e, r⟩ := hp3
    exact ⟨x, y, z, s35 _ _ e, r⟩
  have lenz : zs.length = ns.length := by rw [← hnm, List.length_map]
  have lm : (ns.map V.str).length = 1 + i := by rw [List.length_map, le2]
  have near5 : Near H5 N ns zs fun _ => [] := ⟨hN5, hnm, had, fun v r hr => s5 _ _ (hls r (List.mem_of_getElem? hr))⟩
  -- the loop
  refine ⟨_, rfl, NS, _, rfl, .inl (.inl (.inl (s35 _ _ hNS3))), 1, (((ns.map V.str).length : Nat) : Int), rfl, by rw [lm]; omega, ?_⟩
  refine for_range (lo := 1) (n := ((((ns.map V.str).length : Nat) : Int) - 1).toNat) (fun j σ' H' => ∃ v5 v6 v7 adj, σ' = [some (.ref p), some (.int m), some (.ref NS), some (.int w), some (.ref N), v5, v6, v7, none] ∧ Kp p H3 H' ∧ PotAt H' p (n + 1 + (1 + i) + 1 + 2 * j) ∧
    Near H' N ns zs adj ∧ Gr j adj) ⟨_, _, _, _, rfl, Kp.same s35, hp5, near5, Gr.zero⟩ ?_ ?_
  · rintro i' σ' H' hi ⟨v5, v6, v7, adj, rfl, k, hp, near, g⟩
    rw [lm] at hi
    have hi' : i' < i := by omega
    have hNS' : H' NS = some (.lst (ns.map V.str)) := k _ _ NSp hNS3
    refine seq_asg (fun v H1 => ∃ b : Nat, v = .int b ∧ b ≤ i' ∧ Kp p H' H1 ∧ PotAt H1 p (n + 1 + (1 + i) + 1 + 2 * i' + 1)) (fun Q' hQ' => ?_) ?_
    · refine ⟨_, rfl, _, _, rfl, rfl, _, rfl, p, 3, _, rfl, hp, by omega, by decide, by decide, fun H8 j' hp8 only8 j0' j1' => ?_⟩
      refine ⟨_, _, rfl, rfl, _, _, rfl, hQ' _ _ ⟨(if (1 + (i' : Int) - 1 - j') > 0 then 1 + (i' : Int) - 1 - j' else 0).toNat, ?_, by split <;> omega, Kp.of only8, hp8⟩⟩
      rw [Int.toNat_of_nonneg (by split <;> omega)]
    rintro _ G1 ⟨b, rfl, bl, kb, hpb⟩
    refine seq_asg (fun v H1 => ∃ a : Nat, v = .int a ∧ a ≤ i' ∧ Kp p H' H1 ∧ PotAt H1 p (n + 1 + (1 + i) + 1 + 2 * (i' + 1))) (fun Q' hQ' => ?_) ?_
    · refine ⟨_, rfl, _, _, rfl, rfl, _, rfl, _, rfl, p, _, _, rfl, hpb, by omega, by omega, by omega, fun H7 j hp7 only7 j0 j1 => ?_⟩
      refine ⟨_, rfl, by show 4 ≤ sizeLine; decide, fun L hL => ?_⟩
      have k9 : Kp p H' (upd H7 L (.lst [.int (1 + (i' : Int) - 1), .int 0, .int j, .int (b : Int)])) := kb.trans ((Kp.of only7).trans (Kp.new hL))
      have hp9 : PotAt (upd H7 L (.lst [.int (1 + (i' : Int) - 1), .int 0, .int j, .int (b : Int)])) p (n + 1 + (1 + i) + 1 + 2 * (i' + 1)) := (hp7.upd (Ne.symm (hp7.ne hL))).mono (by omega)
      have at_ : ∃ a : Nat, atI [V.int (1 + (i' : Int) - 1), .int 0, .int j, .int (b : Int)] w = some (.int a) ∧ a ≤ i' := by
        have ww : w = 0 ∨ w = 1 ∨ w = 2 ∨ w = 3 := by omega
        rcases ww with rfl | rfl | rfl | rfl
        · exact ⟨i', congrArg (fun z => some (V.int z)) (show (1 + (i' : Int) - 1) = i' by omega), Nat.le_refl _⟩
        · exact ⟨0, rfl, Nat.zero_le _⟩
        · refine ⟨j.toNat, ?_, by omega⟩
          rw [Int.toNat_of_nonneg j0]
          rfl
        · exact ⟨b, rfl, bl⟩
      obtain ⟨a, ea, al⟩ := at_
      exact ⟨_, rfl, L, _, _, _, rfl, rfl, .inl (.inl upd_same), ea, hQ' _ _ ⟨a, rfl, al, k9, hp9⟩⟩
    rintro v H1 ⟨a, rfl, al, k1', hp1'⟩
    have near1 := near.keep hp k1'
    have hNS1 : H1 NS = some (.lst (ns.map V.str)) := k1' _ _ NSp hNS'
    have ek : (1 : Int) + (i' : Int) = ((i' + 1 : Nat) : Int) := by omega
    have kl : i' + 1 < ns.length := by omega
    have all' : a < ns.length := by omega
    obtain ⟨r, hr, hrm, er⟩ := near1.row kl
    have lk := near1.at_ _ r hr
    have sz : ∀ v, (((adj v).map (nmAt ns)).map V.str).length < sizeLine := fun v => by
      rw [List.length_map, List.length_map, sizeLine_eq]
      have := OkTree.deg.nodup_sub (xs := (adj v).map (nmAt ns)) (ys := ns) (okTree_of.nd_map (g.nd v) fun a ha b hb e => nmAt_inj nsn (by have := g.le _ _ ha; omega) (by have := g.le _ _ hb; omega) e) fun y hy => by
        obtain ⟨u, hu, e⟩ := List.mem_map.mp hy
        rw [← e]
        exact nmAt_mem (by have := g.le _ _ hu; omega)
      rw [List.length_map] at this
      omega
    refine ⟨_, rfl, _, rfl, _, rfl, NS, _, _, _, rfl, rfl, .inl (.inl hNS1), by rw [ek]; exact at_nm kl, N, .ref r.2.1, rfl, er ▸ near1.get nsn hrm, .inl ⟨rfl, _, .inl (.inl lk)⟩, _, rfl, _, rfl, NS, _, _, _, rfl, rfl, .inl (.inl hNS1), at_nm all', r.2.1, _, _, rfl, rfl, lk, sz _, ?_⟩
    have near2 := near1.add (u := a) hr
    have rNS : NS ≠ r.2.1 := fun z => by
      have h1 := (hls r hrm)
      have h2 := hfr r hrm
      rw [← z, hNS3] at h2
      cases h2
    have rp : r.2.1 ≠ p := hp1'.ne' lk names_ne_pot
    have hNS2 : upd H1 r.2.1 (.lst (((adj (i' + 1)).map (nmAt ns)).map V.str ++ [.str (nmAt ns a)])) NS = some (.lst (ns.map V.str)) := by
      rw [upd_ne rNS]
      exact hNS1
    have hp2' := hp1'.upd (o := .lst (((adj (i' + 1)).map (nmAt ns)).map V.str ++ [.str (nmAt ns a)])) (Ne.symm rp)
    have k2' : Kp p H3 (upd H1 r.2.1 (.lst (((adj (i' + 1)).map (nmAt ns)).map V.str ++ [.str (nmAt ns a)]))) := (k.trans k1').put (hfr r hrm)
    generalize upd H1 r.2.1 (.lst (((adj (i' + 1)).map (nmAt ns)).map V.str ++ [.str (nmAt ns a)])) = H2' at near2 hNS2 hp2' k2'
    obtain ⟨r2, hr2, hrm2, er2⟩ := near2.row all'
    have lk2 := near2.at_ _ r2 hr2
    have ne : a ≠ i' + 1 := by omega
    rw [if_neg ne] at lk2
    refine ⟨_, rfl, _, rfl, _, rfl, NS, _, _, _, rfl, rfl, .inl (.inl hNS2), at_nm all', N, .ref r2.2.1, rfl, er2 ▸ near2.get nsn hrm2, .inl ⟨rfl, _, .inl (.inl lk2)⟩, _, rfl, _, rfl, NS, _, _, _, rfl, rfl, .inl (.inl hNS2), by rw [ek]; exact at_nm kl, r2.2.1, _, _, rfl, rfl, lk2, sz _, ?_⟩
    have near3 := near2.add (u := i' + 1) hr2
    have r2p : r2.2.1 ≠ p := hp2'.ne' lk2 names_ne_pot
    refine ⟨_, _, _, addE adj (i' + 1) a, rfl, k2'.put (hfr r2 hrm2), hp2'.upd (Ne.symm r2p), ?_, g.step al⟩
    rw [if_neg ne] at near3
    have eadj : (fun w => if w = a then (if w = i' + 1 then adj w ++ [a] else adj w) ++ [i' + 1] else if w = i' + 1 then adj w ++ [a] else adj w) = addE adj (i' + 1) a := by
      funext w
      unfold addE
      by_cases e1 : w = i' + 1
      · rw [if_neg (fun z => ne (z.symm.trans e1)), if_pos e1, if_pos e1]
      · rw [if_neg e1, if_neg e1]
    rw [eadj] at near3
    exact near3
  · rintro σ' H' ⟨v5, v6, v7, adj, rfl, k, hp, near, g⟩
    have em : ((((ns.map V.str).length : Nat) : Int) - 1).toNat = i := by rw [lm]; omega
    rw [em] at hp g
    have hNS' : H' NS = some (.lst (ns.map V.str)) := k _ _ NSp hNS3
    refine ⟨_, rfl, NS, rfl, ⟨_, .inl (.inl hNS')⟩, fun D2 hD2 => ?_⟩
    have D2p : D2 ≠ p := hp.ne hD2
    refine lc_list (K := K) (xs := ns.map V.str) (fun i H'' => ∃ (t : List Row) (tps : List Addr), Same H' H'' ∧ H'' D2 = some (.lst (tps.map V.ref)) ∧ t.map (·.1) = ns.take i ∧ TupsAt H'' tps t ∧ (∀ r ∈ t, H'' r.2.1 = some (.lst (r.2.2.map V.str))) ∧ (∀ r ∈ t, H' r.2.1 = none ∧ r.2.1 ≠ D2) ∧
      (∀ r ∈ t, r.2.2.Perm ((adj (ns.idxOf r.1)).map (nmAt ns)) ∧ sortedS r.2.2 = true) ∧ (t.map (·.2.1)).Nodup)
      ⟨[], [], snew hD2, upd_same, rfl, .nil, fun r hr => absurd hr List.not_mem_nil, fun r hr => absurd hr List.not_mem_nil, fun r hr => absurd hr List.not_mem_nil, .nil⟩ (fun i H'' _ ⟨_, _, sm, _⟩ => .inl (.inl (sm _ _ hNS'))) ?_ ?_
    · rintro i x H'' hx ⟨t, tps, sm, hd, hnm2, htp', hls', hfr', hpm', hnd'⟩
      rw [List.getElem?_map] at hx
      cases hy : ns[i]? with
      | none => rw [hy] at hx; cases hx
      | some y =>
        rw [hy] at hx
        cases hx
        have hi : i < ns.length := (List.getElem?_eq_some_iff.mp hy).1
        have hyns : y ∈ ns := List.mem_of_getElem? hy
        have lidx := List.idxOf_lt_length_of_mem hyns
        have near9 : Near H'' N ns zs adj := ⟨sm _ _ near.d, near.nm, near.ad, fun v r hr => sm _ _ (near.at_ v r hr)⟩
        obtain ⟨r, hr, hrm, er⟩ := near9.row lidx
        have ey : nmAt ns (ns.idxOf y) = y := by rw [nmAt_eq lidx]; exact List.getElem_idxOf lidx
        rw [ey] at er
        refine ⟨rfl, _, rfl, _, rfl, _, rfl, N, _, rfl, er ▸ near9.get nsn hrm, r.2.1, (adj (ns.idxOf y)).map (nmAt ns), rfl, .inl (.inl (near9.at_ _ r hr)), ?_, fun ys l pm so hl => ⟨by show 2 ≤ sizeLine; decide, fun tp htp0 => ?_⟩⟩
        · have := OkTree.deg.nodup_sub (xs := (adj (ns.idxOf y)).map (nmAt ns)) (ys := ns) (okTree_of.nd_map (g.nd _) fun a ha b hb e => nmAt_inj nsn (by have := g.le _ _ ha; omega) (by have := g.le _ _ hb; omega) e) fun y hy => by
            obtain ⟨u, hu, e⟩ := List.mem_map.mp hy
            rw [← e]
            exact nmAt_mem (by have := g.le _ _ hu; omega)
          omega
        have tl : tp ≠ l := fun z => by rw [z, upd_same] at htp0; cases htp0
        have htp1 : H'' tp = none := by rw [upd_ne tl] at htp0; exact htp0
        have Dl : D2 ≠ l := ne_of_none hd hl
        have Dt : D2 ≠ tp := ne_of_none hd htp1
        have len : tps.length = i := by
          have e := congrArg List.length hnm2
          rw [List.length_map, List.length_take] at e
          rw [htp'.len]
          omega
        refine ⟨tps.map V.ref, by rw [upd_ne Dt, upd_ne Dl]; exact hd, by rw [List.length_map, len, sizeLine_eq]; omega, t ++ [(y, l, ys)], tps ++ [tp], fun b o e => ?_, ?_, ?_, ?_, fun r' hr' => ?_, fun r' hr' => ?_, fun r' hr' => ?_, ?_⟩
        · rw [upd_ne (ne_of_none e hD2), upd_ne (ne_of_none (sm _ _ e) htp1), upd_ne (ne_of_none (sm _ _ e) hl)]
          exact sm _ _ e
        · rw [upd_same, List.map_append]
          rfl
        · rw [List.map_append, hnm2, List.take_succ, hy]
          rfl
        · refine TupsAt.snoc (htp'.keep fun b xs e => ?_) ?_
          · have z2 : b ≠ D2 := fun z => by rw [z, hd] at e; cases e
            rw [upd_ne z2, upd_ne (ne_of_none e htp1), upd_ne (ne_of_none e hl)]
            exact e
          · rw [upd_ne (Ne.symm Dt)]
            exact upd_same
        · rcases List.mem_append.mp hr' with z | z
          · have e := hls' r' z
            rw [upd_ne (hfr' r' z).2, upd_ne (ne_of_none e htp1), upd_ne (ne_of_none e hl)]
            exact e
          · rw [List.mem_singleton.mp z, upd_ne (Ne.symm Dl), upd_ne (Ne.symm tl)]
            exact upd_same
        · rcases List.mem_append.mp hr' with z | z
          · exact hfr' r' z
          · rw [List.mem_singleton.mp z]
            exact ⟨sm.free hl, Ne.symm Dl⟩
        · rcases List.mem_append.mp hr' with z | z
          · exact hpm' r' z
          · rw [List.mem_singleton.mp z]
            exact ⟨pm, so⟩
        · rw [List.map_append]
          refine List.nodup_append.mpr ⟨hnd', by simp, fun a ha b hb e => ?_⟩
          obtain ⟨r2, hr2, er2⟩ := List.mem_map.mp ha
          have h1 := hls' r2 hr2
          rw [er2, e, show b = l from List.mem_singleton.mp hb, hl] at h1
          cases h1
    · rintro H'' ⟨t, tps, sm, hd, hnm2, htp', hls', hfr', hpm', hnd'⟩
      rw [List.length_map, List.take_length] at hnm2
      refine ⟨D2, tps, kvsOf t, rfl, .inl (.inl hd), htp'.pairs, fun d hd2 => ?_⟩
      rw [mergeK_rows0 (by rw [hnm2]; exact nsn)]
      have kk : Kp p H H'' := k3.trans (k.trans (Kp.same sm))
      have hpE : PotAt H'' p (n + 300) := by
        obtain ⟨x, y, z, e, r⟩ := hp.mono (m := n + 300) (by omega)
        exact ⟨x, y, z, sm _ _ e, r⟩
      refine hQ _ d t (kk.put (kk.free hd2 (hpE.ne hd2))) (kk.free hd2 (hpE.ne hd2)) upd_same (fun r hr => by rw [upd_ne (ne_of_none (hls' r hr) hd2)]; exact hls' r hr) (okTree_of g (by omega) (by omega) nsn nsok (by rw [hnm2]) hpm') ?_ (fun r hr => nsp _ (by rw [← hnm2]; exact List.mem_map.mpr ⟨r, hr, rfl⟩)) hnd' (fun r hr => (k3.trans k).free (hfr' r hr).1 (hp.ne (hfr' r hr).1)) (hpE.upd (Ne.symm (hpE.ne hd2)))
      have := congrArg List.length hnm2
      rw [List.length_map] at this
      omega
end
end A8
set_option Elab.async false
set_option linter.all false
set_option maxRecDepth 100000
set_option maxHeartbeats 4000000
namespace A8
open PySem PySem.Spec PyProof.Rows L2 AL
open GxR (TabB TabG Tabbed)
abbrev sCheckTree : Stmt := top 12
theorem scCheckTree : FnScope ["tree"] ["tree"] (defScope sCheckTree) := ⟨rfl, rfl, rfl, by decide +kernel, rfl, by decide +kernel, by decide +kernel⟩
def spCheckTree (Ps : List Addr) : Sp := fun vs H Q _ => ∃ (d : Addr) (t : List Row), vs = [.ref d] ∧ H d = some (.dK (kvsOf t)) ∧ RowsAt H t ∧ OkTree t ∧ Tabs Ps H ∧ ∀ H', Ext Ps H H' → Q .non H'
abbrev sCheckNode : Stmt := top 13
theorem scCheckNode : FnScope ["tree", "node"] ["tree", "node"] (defScope sCheckNode) := ⟨rfl, rfl, rfl, by decide +kernel, rfl, by decide +kernel, by decide +kernel⟩
def spCheckNode : Sp := fun vs H Q _ => ∃ (d : Addr) (t : List Row) (v : Row), vs = [.ref d, .str v.1] ∧ Rd H d (.dK (kvsOf t)) ∧ OkTree t ∧ v ∈ t ∧ Q .non H
theorem inj_nd {α β : Type} {f : α → β} : ∀ {l : List α}, (l.map f).Nodup → ∀ {a b : α}, a ∈ l → b ∈ l → f a = f b → a = b
  | c :: l, nd, a, b, ha, hb, e => by
    rw [List.map_cons, List.nodup_cons] at nd
    rcases List.mem_cons.mp ha with h1 | h1 <;> rcases List.mem_cons.mp hb with h2 | h2
    · rw [h1, h2]
    · exact (nd.1 (by rw [← h1, e]; exact List.mem_map.mpr ⟨b, h2, rfl⟩)).elim
    · exact (nd.1 (by rw [← h2, ← e]; exact List.mem_map.mpr ⟨a, h1, rfl⟩)).elim
    · exact inj_nd nd.2 h1 h2 e
theorem nmEqK {t : List Row} : (kvsOf t).map (·.1) = (t.map (·.1)).map Sum.inr := by unfold kvsOf; rw [List.map_map, List.map_map]; rfl
theorem Ext.none {Ps : List Addr} {H H1 : Hp} (e : Ext Ps H H1) {q : Addr} (h : H1 q = Option.none) (ht : Tabs Ps H) : H q = Option.none := by
  cases z : H q with
  | none => rfl
  | some o =>
    by_cases m : q ∈ Ps
    · obtain ⟨ps, e1, _⟩ := e.tabs ht q m
      rw [h] at e1
      cases e1
    · have := e.kp q o z m
      rw [h] at this
      cases this
theorem kvsOf_none {vt : List Row} {x : Str} (h : x ∉ vt.map (·.1)) : valV (kvsOf vt) (Sum.inr x) = Option.none := by
  cases q : valV (kvsOf vt) (Sum.inr x) with
  | none => rfl
  | some v =>
    have hm : (Sum.inr x : Key) ∈ (kvsOf vt).map (·.1) := valV_in q
    rw [kvsOf, List.map_map] at hm
    obtain ⟨e, he, z⟩ := List.mem_map.mp hm
    exact (h (List.mem_map.mpr ⟨e, he, Sum.inr.inj z⟩)).elim
/-- the row of a name anew -/
def rowPut (zs : List Row) (v : Str) (p : Addr) (ws : List Str) : List Row := zs.map fun r => if r.1 = v then (r.1, p, ws) else r
theorem rowPut_nm (zs : List Row) (v : Str) (p : Addr) (ws : List Str) : (rowPut zs v p ws).map (·.1) = zs.map (·.1) := by
  unfold rowPut
  rw [List.map_map]
  refine List.map_congr_left fun r _ => ?_
  show (if r.1 = v then (r.1, p, ws) else r).1 = r.1
  split <;> rfl
theorem rowPut_kv {zs : List Row} {v : Str} {p : Addr} {ws : List Str} (h : v ∈ zs.map (·.1)) : putK (kvsOf zs) (Sum.inr v) (.ref p) = kvsOf (rowPut zs v p ws) := by
  have any : ((kvsOf zs).any fun kv => decide (kv.1 = Sum.inr v)) = true := by
    obtain ⟨r, hr, e⟩ := List.mem_map.mp h
    exact List.any_eq_true.mpr ⟨(Sum.inr r.1, .ref r.2.1), List.mem_map.mpr ⟨r, hr, rfl⟩, decide_eq_true (congrArg Sum.inr e)⟩
  unfold putK
  rw [if_pos any]
  unfold kvsOf rowPut
  rw [List.map_map, List.map_map]
  refine List.map_congr_left fun r _ => ?_
  show (if (Sum.inr r.1 : Key) = Sum.inr v then ((Sum.inr r.1 : Key), V.ref p) else ((Sum.inr r.1 : Key), V.ref r.2.1)) = (Sum.inr (if r.1 = v then (r.1, p, ws) else r).1, .ref (if r.1 = v then (r.1, p, ws) else r).2.1)
  by_cases e : r.1 = v
  · rw [if_pos e, if_pos (congrArg Sum.inr e)]
  · rw [if_neg e, if_neg fun z => e (Sum.inr.inj z)]
theorem rowPut_mem {zs : List Row} {v : Str} {p : Addr} {ws : List Str} {r : Row} (h : r ∈ rowPut zs v p ws) : (r.1 = v ∧ r.2.1 = p ∧ r.2.2 = ws) ∨ (r.1 ≠ v ∧ r ∈ zs) := by
  obtain ⟨s, hs, e⟩ := List.mem_map.mp h
  by_cases q : s.1 = v
  · rw [if_pos q] at e
    subst e
    exact .inl ⟨q, rfl, rfl⟩
  · rw [if_neg q] at e
    subst e
    exact .inr ⟨q, hs⟩
theorem rowPut_ad : ∀ {zs : List Row} {v : Str} {p : Addr} {ws : List Str}, (zs.map (·.1)).Nodup → (zs.map (·.2.1)).Nodup → (∀ r ∈ zs, r.2.1 ≠ p) → ((rowPut zs v p ws).map (·.2.1)).Nodup
  | [], _, _, _, _, _, _ => .nil
  | a :: zs, v, p, ws, n1, n2, f => by
    rw [List.map_cons] at n1 n2
    have m1 := List.nodup_cons.mp n1
    have m2 := List.nodup_cons.mp n2
    show ((if a.1 = v then (a.1, p, ws) else a).2.1 :: (rowPut zs v p ws).map (·.2.1)).Nodup
    refine List.nodup_cons.mpr ⟨fun z => ?_, rowPut_ad m1.2 m2.2 fun r hr => f r (List.mem_cons_of_mem _ hr)⟩
    obtain ⟨r, hr, e⟩ := List.mem_map.mp z
    rcases rowPut_mem hr with ⟨h1, h2, _⟩ | ⟨h1, h2⟩
    · by_cases q : a.1 = v
      · have hn : v ∈ zs.map (·.1) := by
          rw [← rowPut_nm zs v p ws]
          exact List.mem_map.mpr ⟨r, hr, h1⟩
        exact m1.1 (by rw [q]; exact hn)
      · rw [if_neg q, h2] at e
        exact f a List.mem_cons_self e.symm
    · by_cases q : a.1 = v
      · rw [if_pos q] at e
        exact f r (List.mem_cons_of_mem _ h2) e
      · rw [if_neg q] at e
        exact m2.1 (List.mem_map.mpr ⟨r, h2, e⟩)
section
variable {P : Program} {w : World} {K : PySem.W.Frag} {mg : Str → Option Value} {base : Heap} {f c p1 : Addr} {fd : FuncData} {Ps : List Addr}
theorem ok_checkTree (F : FunD K "check_tree" "check_tree" (defArgs sCheckTree) (defBody sCheckTree) (defScope sCheckTree) [] [] f fd) (cT : Cal P w K mg base 5 "is_tree" (spIsTree Ps)) : FnOk P w K mg base CX0 6 f fd ["tree"] (spCheckTree Ps) := by
  refine F.ok scCheckTree (fun vs H Q E h => ?_) ?_
  · obtain ⟨d, t, rfl, _⟩ := h
    rfl
  intro cdv A outer s H vs Q E hr h
  refine ⟨_, PSs.nox (pss_one (ps_if (pt_not (pt_truth (pe_c cT hr (by decide) rfl (pa_cons (pv 0) pa_nil)) (by intro _; rfl))) pss_never pss_nil)), ?_⟩
  obtain ⟨d, t, rfl, hd, hR, ok, ht, hQ⟩ := h
  exact ⟨_, rfl, d, t, rfl, hd, hR, ok, ht, fun H' e => ⟨true, rfl, iteF (hQ H' e)⟩⟩
theorem ok_checkNode (F : FunD K "check_node" "check_node" (defArgs sCheckNode) (defBody sCheckNode) (defScope sCheckNode) [] [] f fd) (cN : Cal P w K mg base 1 "is_node" spIsNode) : FnOk P w K mg base CX0 2 f fd ["tree", "node"] spCheckNode := by
  refine F.ok scCheckNode (fun vs H Q E h => ?_) ?_
  · obtain ⟨d, t, v, rfl, _⟩ := h
    rfl
  intro cdv A outer s H vs Q E hr h
  refine ⟨_, PSs.nox (pss_one (ps_if (pt_not (pt_truth (pe_c cN hr (by decide) rfl (pa_cons (pv 0) (pa_cons (pv 1) pa_nil))) (by intro _; rfl))) pss_never pss_nil)), ?_⟩
  obtain ⟨d, t, v, rfl, hd, ok, hv, hQ⟩ := h
  refine ⟨_, rfl, _, rfl, d, v.1, _, rfl, hd, true, ?_, iteF hQ⟩
  rw [ok.at_ hv]
  rfl
end
end A8
set_option Elab.async false
set_option linter.all false
set_option maxRecDepth 100000
set_option maxHeartbeats 4000000
namespace A8
open PySem PySem.Spec PyProof.Rows L2 AL
/-! ### a tree with one more leaf -/
def Adj (t : List Row) (a b : Str) : Prop := ∃ s ∈ t, s.1 = a ∧ b ∈ s.2.2
theorem OkTree.adjSym {t : List Row} (ok : OkTree t) {a b : Str} (h : Adj t a b) : Adj t b a := by
  obtain ⟨s, hs, rfl, hb⟩ := h
  obtain ⟨r, hr, rfl⟩ := ok.nbs s hs b hb
  exact ⟨r, hr, rfl, ok.sym s hs r hr hb⟩
theorem OkTree.adjIn {t : List Row} (ok : OkTree t) {s : Row} (hs : s ∈ t) {b : Str} : Adj t s.1 b ↔ b ∈ s.2.2 := by
  constructor
  · rintro ⟨r, hr, e, h⟩
    rw [ok.one hr hs e] at h
    exact h
  · exact fun h => ⟨s, hs, rfl, h⟩
structure Join (t : List Row) (x v : Str) (lt : List Row) : Prop where
  nm : (lt.map (·.1)).Perm (x :: t.map (·.1))
  row : ∀ r ∈ lt, (r.1 = x ∧ r.2.2 = [v]) ∨ ∃ s ∈ t, s.1 = r.1 ∧ ((r.1 ≠ v ∧ r.2.2 = s.2.2) ∨ (r.1 = v ∧ r.2.2.Perm (s.2.2 ++ [x]) ∧ sortedS r.2.2 = true))
def degOf (t : List Row) (a : Str) : Nat := match t.find? (fun r => decide (r.1 = a)) with
  | some r => r.2.2.length
  | none => 0
theorem OkTree.degAt {t : List Row} (ok : OkTree t) {s : Row} (hs : s ∈ t) : degOf t s.1 = s.2.2.length := by
  unfold degOf
  cases q : t.find? (fun r => decide (r.1 = s.1)) with
  | none =>
    have := List.find?_eq_none.mp q s hs
    simp at this
  | some r =>
    have h1 := List.find?_some q
    have h2 := List.mem_of_find?_eq_some q
    rw [ok.one h2 hs (by simpa using h1)]
theorem sum_one : ∀ {t : List Row} {v : Str}, (t.map (·.1)).Nodup → (t.map fun s => s.2.2.length + if s.1 = v then 1 else 0).sum = (t.map fun s => s.2.2.length).sum + if v ∈ t.map (·.1) then 1 else 0
  | [], v, _ => by simp
  | a :: t, v, nd => by
    rw [List.map_cons] at nd
    have n2 := List.nodup_cons.mp nd
    have ih := sum_one (v := v) n2.2
    rw [List.map_cons, List.map_cons, List.sum_cons, List.sum_cons, ih]
    by_cases e : a.1 = v
    · have no : v ∉ t.map (·.1) := by rw [← e]; exact n2.1
      have yes : v ∈ (a :: t).map (·.1) := by rw [List.map_cons, ← e]; exact List.mem_cons_self
      rw [if_pos e, if_neg no, if_pos yes]
      omega
    · by_cases q : v ∈ t.map (·.1)
      · have yes : v ∈ (a :: t).map (·.1) := by rw [List.map_cons]; exact List.mem_cons_of_mem _ q
        rw [if_neg e, if_pos q, if_pos yes]
        omega
      · have no : v ∉ (a :: t).map (·.1) := by
          rw [List.map_cons]
          intro z
          rcases List.mem_cons.mp z with z | z
          · exact e z.symm
          · exact q z
        rw [if_neg e, if_neg q, if_neg no]
        omega
theorem perm_sum' {l k : List Nat} (h : l.Perm k) : l.sum = k.sum := by
  induction h with
  | nil => rfl
  | cons x _ ih => rw [List.sum_cons, List.sum_cons, ih]
  | swap x y l => simp only [List.sum_cons]; omega
  | trans _ _ i1 i2 => exact i1.trans i2
section
variable {t lt kt : List Row} {x v : Str}
theorem Join.mem (j : Join t x v lt) (ok : OkTree t) (hx : x ∉ t.map (·.1)) (hv : v ∈ t.map (·.1)) {r : Row} (hr : r ∈ lt) (y : Str) : y ∈ r.2.2 ↔ Adj t r.1 y ∨ (r.1 = x ∧ y = v) ∨ (r.1 = v ∧ y = x) := by
  have xv : x ≠ v := fun z => hx (by rw [z]; exact hv)
  rcases j.row r hr with ⟨e1, e2⟩ | ⟨s, hs, e, h⟩
  · rw [e2, List.mem_singleton]
    constructor
    · exact fun h => .inr (.inl ⟨e1, h⟩)
    · rintro (⟨s, hs, es, _⟩ | ⟨_, h⟩ | ⟨h, _⟩)
      · exact (hx (List.mem_map.mpr ⟨s, hs, es.trans e1⟩)).elim
      · exact h
      · exact (xv (e1.symm.trans h)).elim
  · have rx : r.1 ≠ x := fun z => hx (List.mem_map.mpr ⟨s, hs, e.trans z⟩)
    rw [← e, ok.adjIn hs, e]
    rcases h with ⟨nv, h⟩ | ⟨ev, pm, _⟩
    · rw [h]
      constructor
      · exact .inl
      · rintro (h | ⟨h, _⟩ | ⟨h, _⟩)
        · exact h
        · exact (rx h).elim
        · exact (nv h).elim
    · rw [pm.mem_iff, List.mem_append, List.mem_singleton]
      constructor
      · rintro (h | h)
        · exact .inl h
        · exact .inr (.inr ⟨ev, h⟩)
      · rintro (h | ⟨h, _⟩ | ⟨_, h⟩)
        · exact .inl h
        · exact (rx h).elim
        · exact .inr h
theorem Join.of (j : Join t x v lt) {a : Str} (h : a = x ∨ a ∈ t.map (·.1)) : ∃ r ∈ lt, r.1 = a := by
  have hm : a ∈ lt.map (·.1) := j.nm.symm.subset (List.mem_cons.mpr h)
  obtain ⟨r, hr, e⟩ := List.mem_map.mp hm
  exact ⟨r, hr, e⟩
theorem Join.inn (j : Join t x v lt) {r : Row} (hr : r ∈ lt) : r.1 = x ∨ r.1 ∈ t.map (·.1) := List.mem_cons.mp (j.nm.subset (List.mem_map.mpr ⟨r, hr, rfl⟩))
theorem Join.len (j : Join t x v lt) : lt.length = t.length + 1 := by
  have := j.nm.length_eq
  simp only [List.length_map, List.length_cons] at this
  exact this
theorem Join.ok (j : Join t x v lt) (ok : OkTree t) (nx : NameOk x) (hx : x ∉ t.map (·.1)) (hv : v ∈ t.map (·.1)) (h40 : t.length + 1 ≤ 40) : OkTree lt := by
  have xv : x ≠ v := fun z => hx (by rw [z]; exact hv)
  have len := j.len
  have mem := fun {r : Row} (hr : r ∈ lt) y => j.mem ok hx hv hr y
  have nds : (x :: t.map (·.1)).Nodup := List.nodup_cons.mpr ⟨hx, ok.nodup⟩
  refine ⟨by omega, by omega, fun r hr => ?_, j.nm.symm.nodup nds, fun r hr y hy => ?_, fun r hr hy => ?_, fun r hr => ?_, fun r hr s hs hy => ?_, ?_, fun S hS cl => ?_⟩
  · rcases j.inn hr with e | e
    · rw [e]; exact nx
    · obtain ⟨s, hs, es⟩ := List.mem_map.mp e
      rw [← es]
      exact ok.names s hs
  · rcases (mem hr y).mp hy with ⟨s, hs, _, hb⟩ | ⟨_, h⟩ | ⟨_, h⟩
    · obtain ⟨q, hq, eq⟩ := ok.nbs s hs y hb
      exact j.of (.inr (List.mem_map.mpr ⟨q, hq, eq⟩))
    · exact j.of (.inr (h ▸ hv))
    · exact j.of (.inl h)
  · rcases (mem hr _).mp hy with ⟨s, hs, es, hb⟩ | ⟨h1, h2⟩ | ⟨h1, h2⟩
    · rw [← es] at hb
      exact ok.self s hs hb
    · exact xv (h1.symm.trans h2)
    · exact xv (h2.symm.trans h1)
  · rcases j.row r hr with ⟨_, e⟩ | ⟨s, hs, e, h⟩
    · rw [e]
      exact ⟨rfl, by simp⟩
    · rcases h with ⟨_, h⟩ | ⟨_, pm, so⟩
      · rw [h]
        exact ok.asc s hs
      · refine ⟨so, pm.symm.nodup (List.nodup_append.mpr ⟨(ok.asc s hs).2, by simp, fun a ha b hb q => ?_⟩)⟩
        rw [List.mem_singleton.mp hb] at q
        obtain ⟨u, hu, eu⟩ := ok.nbs s hs a ha
        exact hx (List.mem_map.mpr ⟨u, hu, eu.trans q⟩)
  · refine (mem hs _).mpr ?_
    rcases (mem hr _).mp hy with h | ⟨h1, h2⟩ | ⟨h1, h2⟩
    · exact .inl (ok.adjSym h)
    · exact .inr (.inr ⟨h2, h1⟩)
    · exact .inr (.inl ⟨h2, h1⟩)
  · have e1 : lt.map (fun r => r.2.2.length) = (lt.map (·.1)).map fun a => if a = x then 1 else degOf t a + if a = v then 1 else 0 := by
      rw [List.map_map]
      refine List.map_congr_left fun r hr => ?_
      show r.2.2.length = if r.1 = x then 1 else degOf t r.1 + if r.1 = v then 1 else 0
      rcases j.row r hr with ⟨e, h⟩ | ⟨s, hs, e, h⟩
      · rw [if_pos e, h]
        rfl
      · have rx : r.1 ≠ x := fun z => hx (List.mem_map.mpr ⟨s, hs, e.trans z⟩)
        rw [if_neg rx, ← e, ok.degAt hs, e]
        rcases h with ⟨nv, h⟩ | ⟨ev, pm, _⟩
        · rw [if_neg nv, h]
          rfl
        · rw [if_pos ev, pm.length_eq, List.length_append]
          rfl
    have e2 := perm_sum' (j.nm.map fun a => if a = x then 1 else degOf t a + if a = v then 1 else 0)
    have e3 : (t.map (·.1)).map (fun a => if a = x then 1 else degOf t a + if a = v then 1 else 0) = t.map fun s => s.2.2.length + if s.1 = v then 1 else 0 := by
      rw [List.map_map]
      refine List.map_congr_left fun s hs => ?_
      show (if s.1 = x then 1 else degOf t s.1 + if s.1 = v then 1 else 0) = _
      have sx : s.1 ≠ x := fun z => hx (List.mem_map.mpr ⟨s, hs, z⟩)
      rw [if_neg sx, ok.degAt hs]
    have e4 := sum_one (v := v) ok.nodup
    rw [if_pos hv] at e4
    rw [List.map_cons, List.sum_cons, if_pos rfl, e3, e4] at e2
    have := ok.ends
    rw [e1, e2, len]
    omega
  · have down : (∀ r ∈ t, S r.1 → ∀ y ∈ r.2.2, S y) := fun r hr h y hy => by
      obtain ⟨q, hq, eq⟩ := j.of (.inr (List.mem_map.mpr ⟨r, hr, rfl⟩))
      exact cl q hq (by rw [eq]; exact h) y ((mem hq y).mpr (.inl (by rw [eq]; exact ⟨r, hr, rfl, hy⟩)))
    obtain ⟨rv, hrv, ev⟩ := List.mem_map.mp hv
    have sv : ∃ r ∈ t, S r.1 := by
      obtain ⟨r, hr, h⟩ := hS
      rcases j.inn hr with e | e
      · exact ⟨rv, hrv, by rw [ev]; exact cl r hr h v ((mem hr v).mpr (.inr (.inl ⟨e, rfl⟩)))⟩
      · obtain ⟨s, hs, es⟩ := List.mem_map.mp e
        exact ⟨s, hs, by rw [es]; exact h⟩
    have all := ok.conn S sv down
    intro s hs
    rcases j.inn hs with e | e
    · obtain ⟨q, hq, eq⟩ := j.of (.inr hv)
      rw [e]
      exact cl q hq (by rw [eq, ← ev]; exact all rv hrv) x ((mem hq x).mpr (.inr (.inr ⟨eq, rfl⟩)))
    · obtain ⟨u, hu, eu⟩ := List.mem_map.mp e
      rw [← eu]
      exact all u hu
/-- what is told of each: by its name and its neighbours -/
theorem rows_eq : ∀ {lt kt : List Row}, lt.map (·.1) = kt.map (·.1) → (∀ r ∈ lt, ∀ s ∈ kt, r.1 = s.1 → r.2.2 = s.2.2) → (lt.map fun r => (r.1, r.2.2)) = kt.map fun r => (r.1, r.2.2)
  | [], [], _, _ => rfl
  | [], _ :: _, h, _ => by simp at h
  | _ :: _, [], h, _ => by simp at h
  | a :: lt, b :: kt, h, f => by
    rw [List.map_cons, List.map_cons] at h
    injection h with h1 h2
    rw [List.map_cons, List.map_cons, rows_eq h2 fun r hr s hs => f r (List.mem_cons_of_mem _ hr) s (List.mem_cons_of_mem _ hs), h1, f a List.mem_cons_self b List.mem_cons_self h1]
/-- sorted by name -/
structure Lf (t : List Row) (x v : Str) (lt : List Row) : Prop extends Join t x v lt where
  so : sortedS (lt.map (·.1)) = true
theorem Lf.same (a : Lf t x v lt) (b : Lf t x v kt) (ok : OkTree t) (hx : x ∉ t.map (·.1)) : (lt.map fun r => (r.1, r.2.2)) = kt.map fun r => (r.1, r.2.2) := by
  have nds : (x :: t.map (·.1)).Nodup := List.nodup_cons.mpr ⟨hx, ok.nodup⟩
  refine rows_eq (sorted_eq a.so (a.nm.symm.nodup nds) b.so (b.nm.symm.nodup nds) fun k => by rw [a.nm.mem_iff, b.nm.mem_iff]) fun r hr s hs e => ?_
  rcases a.row r hr with ⟨e1, h1⟩ | ⟨u, hu, e1, h1⟩ <;> rcases b.row s hs with ⟨e2, h2⟩ | ⟨w, hw, e2, h2⟩
  · rw [h1, h2]
  · exact (hx (List.mem_map.mpr ⟨w, hw, by rw [e2, ← e, e1]⟩)).elim
  · exact (hx (List.mem_map.mpr ⟨u, hu, by rw [e1, e, e2]⟩)).elim
  · have uw : u = w := ok.one hu hw (by rw [e1, e2, e])
    subst uw
    have no : x ∉ u.2.2 := fun z => by
      obtain ⟨q, hq, eq⟩ := ok.nbs u hu x z
      exact hx (List.mem_map.mpr ⟨q, hq, eq⟩)
    have ndx : (u.2.2 ++ [x]).Nodup := List.nodup_append.mpr ⟨(ok.asc u hu).2, by simp, fun a ha b hb q => no (by rw [← List.mem_singleton.mp hb, ← q]; exact ha)⟩
    rcases h1 with ⟨n1, h1⟩ | ⟨n1, p1, s1⟩ <;> rcases h2 with ⟨n2, h2⟩ | ⟨n2, p2, s2⟩
    · rw [h1, h2]
    · exact (n1 (e.trans n2)).elim
    · exact (n2 (e.symm.trans n1)).elim
    · exact sorted_eq s1 (p1.symm.nodup ndx) s2 (p2.symm.nodup ndx) fun k => by rw [p1.mem_iff, p2.mem_iff]
end
end A8
set_option Elab.async false
set_option linter.all false
set_option maxRecDepth 100000
set_option maxHeartbeats 4000000
namespace A8
open PySem PySem.Spec PyProof.Rows L2 AL
open GxR (TabB TabG Tabbed)
theorem kvS_at : ∀ {ps : List (Str × Str)} {y z : Str}, (y, z) ∈ ps → (keysS ps).Nodup → valV (kvS ps) (Sum.inr y) = some (.str z)
  | q :: ps, y, z, h, nd => by
    have n2 := List.nodup_cons.mp (show (q.1 :: keysS ps).Nodup from nd)
    rcases List.mem_cons.mp h with e | e
    · rw [← e]
      exact valV_pos (p := ((Sum.inr y : Key), V.str z)) rfl
    · have ne : ¬ (Sum.inr q.1 : Key) = Sum.inr y := fun w => n2.1 (by
        injection w with w
        rw [w]
        exact List.mem_map.mpr ⟨_, e, rfl⟩)
      exact (valV_neg (p := ((Sum.inr q.1 : Key), V.str q.2)) ne).trans (kvS_at e n2.2)
abbrev sFollow : Stmt := top 15
theorem scFollow : FnScope ["steps", "node", "path"] ["steps", "node"] (defScope sFollow) := ⟨rfl, rfl, rfl, by decide +kernel, rfl, by decide +kernel, by decide +kernel⟩
def spFollow : Sp := fun vs H Q _ => ∃ (q : Addr) (t : List Row) (x v : Str) (ps : List (Str × Str)), vs = [.ref q, .str v] ∧ H q = some (.dK (kvS ps)) ∧ StepsOk t x ps ∧ OkTree t ∧ v ∈ keysS ps ∧
  ∀ (H' : Hp) (a : Addr) (p : List Str), Same H H' → H a = none → H' a = some (.lst (p.map V.str)) → Ch ps p → p[0]? = some v → p.getLast? = some x → p.length ≤ 40 → Q (.ref a) H'
abbrev sPath : Stmt := top 17
theorem scPath : FnScope ["tree", "node", "other"] ["tree", "node", "other"] (defScope sPath) := ⟨rfl, rfl, rfl, by decide +kernel, rfl, by decide +kernel, by decide +kernel⟩
def spPath (Ps : List Addr) : Sp := fun vs H Q _ => ∃ (d : Addr) (t : List Row) (v x : Row), vs = [.ref d, .str v.1, .str x.1] ∧ H d = some (.dK (kvsOf t)) ∧ RowsAt H t ∧ OkTree t ∧ v ∈ t ∧ x ∈ t ∧ Tabs Ps H ∧
  ∀ (H' : Hp) (a : Addr) (p : List Str), Ext Ps H H' → H a = none → H' a = some (.lst (p.map V.str)) → Wk t v.1 p → p.getLast? = some x.1 → p.length ≤ 40 → Q (.ref a) H'
abbrev sDirn : Stmt := top 18
theorem scDirn : FnScope ["tree", "node", "other"] ["tree", "node", "other"] (defScope sDirn) := ⟨rfl, rfl, rfl, by decide +kernel, rfl, by decide +kernel, by decide +kernel⟩
def spDirn (Ps : List Addr) : Sp := fun vs H Q _ => ∃ (d : Addr) (t : List Row) (v x : Row), vs = [.ref d, .str v.1, .str x.1] ∧ H d = some (.dK (kvsOf t)) ∧ RowsAt H t ∧ OkTree t ∧ v ∈ t ∧ x ∈ t ∧ Tabs Ps H ∧
  ∀ (H' : Hp) (z : Str) (ps : List (Str × Str)), Ext Ps H H' → StepsOk t x.1 ps → (v.1, z) ∈ ps → Q (.str z) H'
section
variable {P : Program} {w : World} {K : PySem.W.Frag} {mg : Str → Option Value} {base : Heap} {f c p1 : Addr} {fd : FuncData} {Ps : List Addr}
theorem ok_follow (F : FunD K "follow" "follow" (defArgs sFollow) (defBody sFollow) (defScope sFollow) [] [] f fd) : FnOk P w K mg base CX0 1 f fd ["steps", "node"] spFollow := by
  refine F.ok scFollow (fun vs H Q E h => ?_) ?_
  · obtain ⟨q, t, x, v, ps, rfl, _⟩ := h
    rfl
  intro cdv A outer s H vs Q E hr h
  refine ⟨_, PSs.nox (pss_cons (ps_set (i := 2) scFollow.nd rfl (Or.inl rfl) (pe_lst (pa_cons (pv 1) pa_nil)))
    (pss_cons (ps_while PassesOwn.never (pt_cmpR op_ne (pe_dget (hu_of hr) (pv 0) (pe_ix ix_list (pv 2) (pe_un un_neg pe_int) (fun _ _ => rfl)) (fun _ _ => rfl)) (pe_ix ix_list (pv 2) (pe_un un_neg pe_int) (fun _ _ => rfl)) rfl)
      (pss_one (ps_expr (pe_bm PySem.F.plainAttrs_list PySem.F.slot_list_append PySem.F.type_list_append mt_append (pv 2) (pa_cons (pe_dget (hu_of hr) (pv 0) (pe_ix ix_list (pv 2) (pe_un un_neg pe_int) (fun _ _ => rfl)) (fun _ _ => rfl)) pa_nil)))))
    (pss_one (ps_ret (pv 2))))), ?_⟩
  obtain ⟨q, t, x, v, ps, rfl, hq, S, ok, hv, hQ⟩ := h
  refine ⟨_, rfl, by show 1 ≤ sizeLine; decide, fun a ha => ?_⟩
  have sA : Same H (upd H a (.lst [.str v])) := fun b u e => by rw [upd_ne (ne_of_none e ha)]; exact e
  have pl : ps.length ≤ 40 := Nat.le_trans (by
    have := (show Part t x ps from ⟨S.first, S.nodup, S.step, S.nodes⟩).len
    exact this) ok.n40
  obtain ⟨qv, hqv, ev⟩ := List.mem_map.mp hv
  obtain ⟨i0, l0, ei0⟩ := List.mem_iff_getElem.mp hqv
  have hi0 : ps[i0]? = some (v, qv.2) := by rw [List.getElem?_eq_getElem l0, ei0, ← ev]
  refine ⟨fun m σ H' => ∃ (p : List Str) (u z : Str), σ = [some (.ref q), some (.str v), some (.ref a)] ∧ Same H H' ∧ H' a = some (.lst (p.map V.str ++ [.str u])) ∧ Ch ps (p ++ [u]) ∧ (p ++ [u])[0]? = some v ∧ ps[m]? = some (u, z) ∧ p.length + 1 + m ≤ 40,
    ⟨i0, [], v, qv.2, rfl, sA, upd_same, fun i b c' _ h2 => ?_, rfl, hi0, by simp only [List.length_nil]; omega⟩, ?_⟩
  · have := at_lt h2
    simp only [List.nil_append, List.length_singleton] at this
    omega
  rintro m σ H1 ⟨p, u, z, rfl, sm, hA, ch, p0, hm, hlen⟩
  have hmem : (u, z) ∈ ps := List.mem_of_getElem? hm
  have dg : DGet H1 q (.str u) (some (.str z)) := .inl ⟨kvS ps, Sum.inr u, .inl (sm _ _ hq), rfl, (kvS_at hmem S.nodup).symm⟩
  refine ⟨_, rfl, _, rfl, _, rfl, a, _, _, _, rfl, rfl, .inl (.inl hA), atI_last _ _, q, _, rfl, dg, _, rfl, _, rfl, a, _, _, _, rfl, rfl, .inl (.inl hA), atI_last _ _, rfl, _, rfl, ?_⟩
  by_cases e : z = u
  · refine iteNS (congrArg V.str e) ?_
    have ux : u = x := by
      apply Classical.byContradiction
      intro ne
      obtain ⟨j, z', lj, ej⟩ := S.lower hm ne
      have := S.place (i := j) (j := m) (by rw [ej, e]) hm
      omega
    refine ⟨_, rfl, hQ H1 a (p ++ [u]) sm ha (by rw [List.map_append]; exact hA) ch p0 (by rw [last_snoc, ux]) ?_⟩
    rw [List.length_append]
    simp only [List.length_singleton]
    omega
  · have ne : ¬ V.str z = V.str u := fun w => e (by injection w)
    rw [decide_eq_false ne]
    refine iteT ?_
    have ux : u ≠ x := fun w => e (by
      rw [w] at hmem ⊢
      exact (S.fn (List.mem_of_getElem? S.first) hmem).symm)
    obtain ⟨j, z', lj, ej⟩ := S.lower hm ux
    refine ⟨fun σ' H' => ∃ (p : List Str) (u z : Str), σ' = [some (.ref q), some (.str v), some (.ref a)] ∧ Same H H' ∧ H' a = some (.lst (p.map V.str ++ [.str u])) ∧ Ch ps (p ++ [u]) ∧ (p ++ [u])[0]? = some v ∧ ps[j]? = some (u, z) ∧ p.length + 1 + j ≤ 40, fun σ' H' h => ⟨j, lj, h⟩, ?_⟩
    refine ⟨_, rfl, .inl ⟨rfl, _, .inl (.inl hA)⟩, _, rfl, _, rfl, _, rfl, a, _, _, _, rfl, rfl, .inl (.inl hA), atI_last _ _, q, _, rfl, dg, a, _, _, rfl, rfl, hA, ?_, ?_⟩
    · rw [List.length_append, List.length_map, sizeLine_eq]
      simp only [List.length_singleton]
      omega
    refine ⟨p ++ [u], z, z', rfl, fun b o w => ?_, ?_, fun i b c' h1 h2 => ?_, ?_, ej, ?_⟩
    · rw [upd_ne (ne_of_none w ha)]
      exact sm _ _ w
    · rw [upd_same, List.map_append]
      rfl
    · have l := at_lt h2
      rw [List.length_append, List.length_append] at l
      simp only [List.length_singleton] at l
      by_cases k : i + 1 < p.length + 1
      · have k2 : i + 1 < (p ++ [u]).length := by rw [List.length_append]; exact k
        rw [List.getElem?_append_left k2] at h2
        rw [List.getElem?_append_left (by omega)] at h1
        exact ch i b c' h1 h2
      · have ei : i = p.length := by omega
        have lu : (p ++ [u]).length = p.length + 1 := by rw [List.length_append]; rfl
        rw [ei, List.getElem?_append_left (by omega), List.getElem?_append_right (Nat.le_refl _), Nat.sub_self] at h1
        rw [ei, List.getElem?_append_right (by omega), lu, Nat.sub_self] at h2
        have e1 : u = b := Option.some.inj h1
        have e2 : z = c' := Option.some.inj h2
        rw [← e1, ← e2]
        exact ⟨hmem, fun w => e w.symm⟩
    · rw [List.getElem?_append_left (by rw [List.length_append]; exact Nat.succ_pos _)]
      exact p0
    · rw [List.length_append]
      simp only [List.length_singleton]
      omega
theorem ok_path (F : FunD K "path_between" "path_between" (defArgs sPath) (defBody sPath) (defScope sPath) [] [] f fd) (cC : Cal P w K mg base 6 "check_tree" (spCheckTree Ps)) (cN : Cal P w K mg base 2 "check_node" spCheckNode) (cS : Cal P w K mg base 1 "steps_to" spSteps) (cF : Cal P w K mg base 1 "follow" spFollow) :
    FnOk P w K mg base CX0 7 f fd ["tree", "node", "other"] (spPath Ps) := by
  refine F.ok scPath (fun vs H Q E h => ?_) ?_
  · obtain ⟨d, t, v, x, rfl, _⟩ := h
    rfl
  intro cdv A outer s H vs Q E hr h
  refine ⟨_, PSs.nox (pss_cons (ps_expr (pe_c cC hr (by decide) rfl (pa_cons (pv 0) pa_nil))) (pss_cons (ps_expr (pe_c cN hr (by decide) rfl (pa_cons (pv 0) (pa_cons (pv 1) pa_nil)))) (pss_cons (ps_expr (pe_c cN hr (by decide) rfl (pa_cons (pv 0) (pa_cons (pv 2) pa_nil))))
    (pss_one (ps_ret (pe_c cF hr (by decide) rfl (pa_cons (pe_c cS hr (by decide) rfl (pa_cons (pv 0) (pa_cons (pv 2) pa_nil))) (pa_cons (pv 1) pa_nil)))))))), ?_⟩
  obtain ⟨d, t, v, x, rfl, hd, hR, ok, hv, hx, ht, hQ⟩ := h
  refine ⟨_, rfl, d, t, rfl, hd, hR, ok, ht, fun H1 e1 => ?_⟩
  have hd1 := e1.get ht hd fun _ z => HO.noConfusion z
  have hR1 := e1.rows ht hR
  refine ⟨_, rfl, _, rfl, d, t, v, rfl, .inl hd1, ok, hv, ?_⟩
  refine ⟨_, rfl, _, rfl, d, t, x, rfl, .inl hd1, ok, hx, ?_⟩
  refine ⟨_, rfl, _, rfl, d, t, x, rfl, ⟨.inl hd1, hR1⟩, ok, hx, fun H2 q ps hq0 hq S s2 => ?_⟩
  refine ⟨_, rfl, q, t, x.1, v.1, ps, rfl, hq, S, ok, S.all v hv, fun H3 a p s3 ha0 ha ch p0 pl l40 => ?_⟩
  have e3 : Ext Ps H H2 := e1.trans (Ext.same s2)
  exact hQ H3 a p (e3.trans (Ext.same s3)) (e3.none ha0 ht) ha (ch.wk S ok p0) pl l40
theorem ok_dirn (F : FunD K "direction" "direction" (defArgs sDirn) (defBody sDirn) (defScope sDirn) [] [] f fd) (cC : Cal P w K mg base 6 "check_tree" (spCheckTree Ps)) (cN : Cal P w K mg base 2 "check_node" spCheckNode) (cS : Cal P w K mg base 1 "steps_to" spSteps) :
    FnOk P w K mg base CX0 7 f fd ["tree", "node", "other"] (spDirn Ps) := by
  refine F.ok scDirn (fun vs H Q E h => ?_) ?_
  · obtain ⟨d, t, v, x, rfl, _⟩ := h
    rfl
  intro cdv A outer s H vs Q E hr h
  refine ⟨_, PSs.nox (pss_cons (ps_expr (pe_c cC hr (by decide) rfl (pa_cons (pv 0) pa_nil))) (pss_cons (ps_expr (pe_c cN hr (by decide) rfl (pa_cons (pv 0) (pa_cons (pv 1) pa_nil)))) (pss_cons (ps_expr (pe_c cN hr (by decide) rfl (pa_cons (pv 0) (pa_cons (pv 2) pa_nil))))
    (pss_one (ps_ret (pe_dget (hu_of hr) (pe_c cS hr (by decide) rfl (pa_cons (pv 0) (pa_cons (pv 2) pa_nil))) (pv 1) (fun _ _ => rfl))))))), ?_⟩
  obtain ⟨d, t, v, x, rfl, hd, hR, ok, hv, hx, ht, hQ⟩ := h
  refine ⟨_, rfl, d, t, rfl, hd, hR, ok, ht, fun H1 e1 => ?_⟩
  have hd1 := e1.get ht hd fun _ z => HO.noConfusion z
  have hR1 := e1.rows ht hR
  refine ⟨_, rfl, _, rfl, d, t, v, rfl, .inl hd1, ok, hv, ?_⟩
  refine ⟨_, rfl, _, rfl, d, t, x, rfl, .inl hd1, ok, hx, ?_⟩
  refine ⟨_, rfl, _, rfl, d, t, x, rfl, ⟨.inl hd1, hR1⟩, ok, hx, fun H2 q ps hq0 hq S s2 => ?_⟩
  obtain ⟨qv, hqv, ev⟩ := List.mem_map.mp (S.all v hv)
  have hm : (v.1, qv.2) ∈ ps := by rw [← ev]; exact hqv
  refine ⟨_, rfl, q, .str qv.2, rfl, .inl ⟨kvS ps, Sum.inr v.1, .inl hq, rfl, (kvS_at hm S.nodup).symm⟩, ?_⟩
  exact hQ H2 qv.2 ps (e1.trans (Ext.same s2)) S hm
end
end A8
set_option Elab.async false
set_option linter.all false
set_option maxRecDepth 100000
set_option maxHeartbeats 4000000
namespace A8
open PySem PySem.Spec PyProof.Rows L2 AL
open GxR (TabB TabG Tabbed)
/-! ### [e for x in .. for y in ..] -/
abbrev InW (J1 : It) (D : Addr) (g1 : TG) (tt1 : TT) (te : TE) (σ2 : L2.St) (vs1 : List Nat) (Nx : Hp → Prop) (H4 : Hp) : Prop := ∃ W1 : Nat → Nat → Hp → Prop, (∃ m, W1 0 m H4) ∧ ∀ j k H, W1 j k H →
  (J1.stop j H ∧ Nx H) ∨ (J1.go j H ∧ ∃ Nx1 : Hp → Prop, (∀ H', Nx1 H' → ∃ k', k' < k ∧ W1 (j + 1) k' H') ∧ ∀ x H', J1.yld j H x H' → g1 x (wipe σ2 vs1) H' fun σ3 H5 => wipe σ3 vs1 = wipe σ2 vs1 ∧
    tt1 σ3 H5 fun b H6 => if b = true then te σ3 H6 fun y H7 => ∃ acc, H7 D = some (.lst acc) ∧ acc.length < sizeLine ∧ Nx1 (upd H7 D (.lst (acc ++ [y]))) else Nx1 H6)
section
variable {J J1 : It} {n n1 : Nat} {G G1 : Hp → Prop} {Y Y1 : Nat → Hp → V → Hp → Prop} {g g1 : TG} {tt tt1 : TT} {wi1 : TI} {te : TE} {vs vs1 : List Nat} {σ σ2 : L2.St} {H1 H4 : Hp} {D : Addr} {Qd Nx : Hp → Prop}
theorem lc2_out (w : Walk J n G Y) (Pv : Nat → Hp → Prop) (h0 : Pv 0 (upd H1 D (.lst []))) (hG : ∀ i H, i ≤ n → Pv i H → G H)
    (hs : ∀ i x H H', i < n → Pv i H → Y i H x H' → g x (wipe σ vs) H' fun σ2 H2 => wipe σ2 vs = wipe σ vs ∧ tt σ2 H2 fun b H3 => if b = true then wi1 σ2 H3 fun J1 H4 => InW J1 D g1 tt1 te σ2 vs1 (Pv (i + 1)) H4 else Pv (i + 1) H3) (hd : ∀ H, Pv n H → Qd H) :
    ∃ W : Nat → Nat → Hp → Prop, (∃ m, W 0 m (upd H1 D (.lst []))) ∧ ∀ i m H, W i m H → (J.stop i H ∧ Qd H) ∨ (J.go i H ∧ ∃ Nx : Hp → Prop, (∀ H', Nx H' → ∃ m', m' < m ∧ W (i + 1) m' H') ∧
      ∀ x H', J.yld i H x H' → g x (wipe σ vs) H' fun σ2 H2 => wipe σ2 vs = wipe σ vs ∧ tt σ2 H2 fun b H3 => if b = true then wi1 σ2 H3 fun J1 H4 => InW J1 D g1 tt1 te σ2 vs1 Nx H4 else Nx H3) := by
  refine ⟨fun i m H => m + i = n ∧ Pv i H, ⟨n, Nat.add_zero n, h0⟩, ?_⟩
  rintro i m H ⟨e, p⟩
  have q := hG i H (by omega) p
  cases m with
  | zero =>
    obtain rfl : i = n := by omega
    exact .inl ⟨w.stops H q, hd H p⟩
  | succ m => exact .inr ⟨w.goes i H (by omega) q, Pv (i + 1), fun H' p' => ⟨m, Nat.lt_succ_self m, by omega, p'⟩, fun x H' y => hs i x H H' (by omega) p (w.yields i H x H' (by omega) q y)⟩
theorem lc2_in (w : Walk J1 n1 G1 Y1) (Pi : Nat → Hp → Prop) (h0 : Pi 0 H4) (hG : ∀ i H, i ≤ n1 → Pi i H → G1 H)
    (hs : ∀ i x H H', i < n1 → Pi i H → Y1 i H x H' → g1 x (wipe σ2 vs1) H' fun σ3 H5 => wipe σ3 vs1 = wipe σ2 vs1 ∧ tt1 σ3 H5 fun b H6 => if b = true then te σ3 H6 fun y H7 => ∃ acc, H7 D = some (.lst acc) ∧ acc.length < sizeLine ∧ Pi (i + 1) (upd H7 D (.lst (acc ++ [y])))
      else Pi (i + 1) H6) (hd : ∀ H, Pi n1 H → Nx H) : InW J1 D g1 tt1 te σ2 vs1 Nx H4 := by
  refine ⟨fun i m H => m + i = n1 ∧ Pi i H, ⟨n1, Nat.add_zero n1, h0⟩, ?_⟩
  rintro i m H ⟨e, p⟩
  have q := hG i H (by omega) p
  cases m with
  | zero =>
    obtain rfl : i = n1 := by omega
    exact .inl ⟨w.stops H q, hd H p⟩
  | succ m => exact .inr ⟨w.goes i H (by omega) q, Pi (i + 1), fun H' p' => ⟨m, Nat.lt_succ_self m, by omega, p'⟩, fun x H' y => hs i x H H' (by omega) p (w.yields i H x H' (by omega) q y)⟩
end
/-! ### pairs of texts -/
abbrev PairsAt (H : Hp) (ts : List Addr) (qs : List (Str × Str)) : Prop := Paired (fun a (q : Str × Str) => H a = some (.tup [.str q.1, .str q.2])) ts qs
theorem PairsAt.keep {H H' : Hp} {ts : List Addr} {qs : List (Str × Str)} (h : PairsAt H ts qs) (k : ∀ b xs, H b = some (.tup xs) → H' b = some (.tup xs)) : PairsAt H' ts qs := by
  unfold PairsAt at h ⊢
  induction h with
  | nil => exact .nil
  | cons h _ ih => exact .cons (k _ _ h) ih
theorem PairsAt.snoc {H : Hp} {ts : List Addr} {qs : List (Str × Str)} {a : Addr} {q : Str × Str} (h : PairsAt H ts qs) (e : H a = some (.tup [.str q.1, .str q.2])) : PairsAt H (ts ++ [a]) (qs ++ [q]) := by
  unfold PairsAt at h ⊢
  induction h with
  | nil => exact .cons e .nil
  | cons h _ ih => exact .cons h ih
theorem PairsAt.len {H : Hp} {ts : List Addr} {qs : List (Str × Str)} (h : PairsAt H ts qs) : ts.length = qs.length := by
  unfold PairsAt at h
  induction h with
  | nil => rfl
  | cons _ _ ih => rw [List.length_cons, List.length_cons, ih]
theorem PairsAt.append {H : Hp} {ts us : List Addr} {qs rs : List (Str × Str)} (h : PairsAt H ts qs) (k : PairsAt H us rs) : PairsAt H (ts ++ us) (qs ++ rs) := by
  unfold PairsAt at h k ⊢
  induction h with
  | nil => exact k
  | cons h _ ih => exact .cons h ih
def nbO (t : List Row) (a : Str) : List Str := match t.find? (fun r => decide (r.1 = a)) with
  | some r => r.2.2
  | none => []
theorem OkTree.nbAt {t : List Row} (ok : OkTree t) {s : Row} (hs : s ∈ t) : nbO t s.1 = s.2.2 := by
  unfold nbO
  cases q : t.find? (fun r => decide (r.1 = s.1)) with
  | none =>
    have := List.find?_eq_none.mp q s hs
    simp at this
  | some r => rw [ok.one (List.mem_of_find?_eq_some q) hs (by simpa using List.find?_some q)]
def upE (y : Str) (zs : List Str) : List (Str × Str) := (zs.filter fun z => decide (sLt y z)).map fun z => (y, z)
def edgeL (t : List Row) (ys : List Str) : List (Str × Str) := ys.flatMap fun y => upE y (nbO t y)
theorem edgeL_snoc (t : List Row) (ys : List Str) (y : Str) : edgeL t (ys ++ [y]) = edgeL t ys ++ upE y (nbO t y) := by
  unfold edgeL
  rw [List.flatMap_append]
  simp
theorem upE_snoc (y : Str) (zs : List Str) (z : Str) : upE y (zs ++ [z]) = upE y zs ++ if sLt y z then [(y, z)] else [] := by
  unfold upE
  rw [List.filter_append, List.map_append]
  by_cases h : sLt y z
  · rw [if_pos h]
    simp [h]
  · rw [if_neg h]
    simp [h]
theorem upE_len (y : Str) (zs : List Str) : (upE y zs).length ≤ zs.length := by
  unfold upE
  rw [List.length_map]
  exact List.length_filter_le _ _
abbrev sEdges : Stmt := top 16
theorem scEdges : FnScope ["tree", "node", "other"] ["tree"] (defScope sEdges) := ⟨rfl, rfl, rfl, by decide +kernel, rfl, by decide +kernel, by decide +kernel⟩
def spEdges (Ps : List Addr) : Sp := fun vs H Q _ => ∃ (d : Addr) (t : List Row), vs = [.ref d] ∧ H d = some (.dK (kvsOf t)) ∧ RowsAt H t ∧ OkTree t ∧ Tabs Ps H ∧
  ∀ (H' : Hp) (q : Addr) (ts : List Addr) (ys : List Str), Ext Ps H H' → H q = none → H' q = some (.lst (ts.map V.ref)) → ys.Perm (t.map (·.1)) → sortedS ys = true → PairsAt H' ts (edgeL t ys) → ts.length ≤ 1640 → Q (.ref q) H'
section
variable {P : Program} {w : World} {K : PySem.W.Frag} {mg : Str → Option Value} {base : Heap} {f c p1 : Addr} {fd : FuncData} {Ps : List Addr}
theorem ok_edges (F : FunD K "edges_of" "edges_of" (defArgs sEdges) (defBody sEdges) (defScope sEdges) [] [] f fd) (cC : Cal P w K mg base 6 "check_tree" (spCheckTree Ps)) (gS : mg "sorted" = none) : FnOk P w K mg base CX0 7 f fd ["tree"] (spEdges Ps) := by
  refine F.ok scEdges (fun vs H Q E h => ?_) ?_
  · obtain ⟨d, t, rfl, _⟩ := h
    rfl
  intro cdv A outer s H vs Q E hr h
  refine ⟨_, PSs.nox (pss_cons (ps_expr (pe_c cC hr (by decide) rfl (pa_cons (pv 0) pa_nil)))
    (pss_one (ps_ret (pe_lc2 (own := [("node", 1), ("other", 2)]) (vs1 := [2]) (g := gName 1) (g1 := gName 2) (tt := tYes) (wi1 := iList K (tDGet (tVar 0) (tVar 1)))
      (tt1 := tTest (tOp (fun x y H Q => ∃ i j, x = .str i ∧ y = .str j ∧ Q (.bl (decide (i.cps.toList < j.cps.toList))) H) (tVar 1) (tVar 2))) (te := tTup (tCons (tVar 1) (tCons (tVar 2) tNil))) rfl scEdges.nd (pi_list (pe_callB (call_sortedD rfl) rfl gS (by decide +kernel) (pa_cons (pv 0) pa_nil)))
      (blkOk_by (N := ["tree", "node", "other"]) (sc := defScope sEdges) (by decide +kernel)) (by decide) (fun _ _ _ _ _ => pg_name (i := 1) scEdges.nd rfl (Or.inl rfl)) (fun _ _ _ _ _ => pts_nil) (fun _ _ _ _ _ => pi_list (pe_dget (hu_of hr) (pv 0) (pv 1) (fun _ _ => rfl)))
      (fun _ _ _ _ _ => pg_name (i := 2) scEdges.nd rfl (Or.inl rfl)) (fun _ _ _ _ _ => pts_one (pt_cmpR op_lt_str (pv 1) (pv 2) (nomark _))) (fun _ _ _ _ _ => pe_tup (pa_cons (pv 1) (pa_cons (pv 2) pa_nil))))))), ?_⟩
  obtain ⟨d, t, rfl, hd, hR, ok, ht, hQ⟩ := h
  have n40 := ok.n40
  refine ⟨_, rfl, d, t, rfl, hd, hR, ok, ht, fun H1 e1 => ?_⟩
  have hd1 := e1.get ht hd fun _ z => HO.noConfusion z
  have hR1 := e1.rows ht hR
  refine ⟨_, rfl, d, kvsOf t, t.map (·.1), rfl, .inl hd1, nmEqK, by rw [List.length_map]; omega, fun ys so pm hso hs0 => ?_⟩
  have s2 : Same H1 (upd H1 so (.lst (ys.map V.str))) := snew hs0
  have hso2 : upd H1 so (.lst (ys.map V.str)) so = some (.lst (ys.map V.str)) := upd_same
  generalize upd H1 so (.lst (ys.map V.str)) = H2 at s2 hso2
  have yl : ys.length = t.length := by
    have := pm.length_eq
    rw [List.length_map] at this
    exact this
  refine ⟨so, rfl, ⟨_, .inl (.inl hso2)⟩, fun D hD => ?_⟩
  have eK : (ys.map V.str).length = ys.length := List.length_map _
  refine lc2_out (walk_list (K := K) (a := so) (xs := ys.map V.str)) (fun i H' => ∃ ts, Same H2 H' ∧ H' D = some (.lst (ts.map V.ref)) ∧ PairsAt H' ts (edgeL t (ys.take i)) ∧ ts.length ≤ 41 * i)
    ⟨[], snew hD, upd_same, .nil, Nat.zero_le _⟩ (fun i H' _ ⟨_, sm, _⟩ => .inl (.inl (sm _ _ hso2))) ?_ ?_
  · rintro i x H' H'' hi ⟨ts, sm, hD', hts, tl⟩ ⟨rfl, hx⟩
    rw [eK] at hi
    rw [List.getElem?_map, List.getElem?_eq_getElem hi] at hx
    have hy : ys[i]? = some ys[i] := List.getElem?_eq_getElem hi
    obtain ⟨r, hr', er⟩ := List.mem_map.mp (pm.subset (List.getElem_mem hi))
    rw [← er] at hx hy
    cases hx
    have T2 : TreeAt H2 d t := ⟨.inl (s2 _ _ hd1), fun r hr => s2 _ _ (hR1 r hr)⟩
    have T' : TreeAt H'' d t := ⟨.inl (sm _ _ (s2 _ _ hd1)), fun r hr => sm _ _ (s2 _ _ (hR1 r hr))⟩
    have dg := ok.deg hr'
    refine ⟨rfl, _, rfl, _, rfl, d, _, rfl, T'.get ok hr', r.2.1, rfl, ⟨_, T'.row hr' K⟩, ?_⟩
    have rK : (r.2.2.map V.str).length = r.2.2.length := List.length_map _
    refine lc2_in (walk_list (K := K) (a := r.2.1) (xs := r.2.2.map V.str)) (fun j H' => ∃ ts, Same H2 H' ∧ H' D = some (.lst (ts.map V.ref)) ∧ PairsAt H' ts (edgeL t (ys.take i) ++ upE r.1 (r.2.2.take j)) ∧ ts.length ≤ 41 * i + j)
      ⟨ts, sm, hD', by rw [List.take_zero]; show PairsAt _ _ (_ ++ []); rw [List.append_nil]; exact hts, tl⟩ (fun j G _ ⟨_, sm', _⟩ => .inl (.inl (sm' _ _ (T2.rows r hr')))) ?_ ?_
    · rintro j z G G' hj ⟨us, sm', hDj, hus, ul⟩ ⟨rfl, hz⟩
      rw [rK] at hj
      rw [List.getElem?_map, List.getElem?_eq_getElem hj] at hz
      have hzz : r.2.2[j]? = some r.2.2[j] := List.getElem?_eq_getElem hj
      cases hz
      have step : upE r.1 (r.2.2.take (j + 1)) = upE r.1 (r.2.2.take j) ++ if sLt r.1 r.2.2[j] then [(r.1, r.2.2[j])] else [] := by
        rw [List.take_succ, hzz]
        exact upE_snoc _ _ _
      refine ⟨rfl, _, rfl, _, rfl, _, _, rfl, rfl, _, rfl, ite2 (fun h => ?_) fun h => ?_⟩
      · have lt : sLt r.1 r.2.2[j] := of_decide_eq_true h
        refine ⟨_, rfl, _, rfl, by show 2 ≤ sizeLine; decide, fun tp htp => ?_⟩
        have Dt : D ≠ tp := ne_of_none hDj htp
        refine ⟨us.map V.ref, by rw [upd_ne Dt]; exact hDj, by rw [List.length_map, sizeLine_eq]; omega, us ++ [tp], fun b o e => ?_, ?_, ?_, ?_⟩
        · rw [upd_ne (ne_of_none e hD), upd_ne (ne_of_none (sm' _ _ e) htp)]
          exact sm' _ _ e
        · rw [upd_same, List.map_append]
          rfl
        · rw [step, if_pos lt, ← List.append_assoc]
          refine PairsAt.snoc (hus.keep fun b xs e => ?_) ?_
          · have z2 : b ≠ D := fun z => by rw [z, hDj] at e; cases e
            rw [upd_ne z2, upd_ne (ne_of_none e htp)]
            exact e
          · rw [upd_ne (Ne.symm Dt)]
            exact upd_same
        · rw [List.length_append]
          simp only [List.length_singleton]
          omega
      · have nlt : ¬ sLt r.1 r.2.2[j] := fun z => h (decide_eq_true z)
        refine ⟨us, sm', hDj, ?_, by omega⟩
        rw [step, if_neg nlt, List.append_nil]
        exact hus
    · rintro G ⟨us, sm', hDj, hus, ul⟩
      rw [rK] at hus ul
      refine ⟨us, sm', hDj, ?_, by omega⟩
      rw [List.take_length] at hus
      rw [List.take_succ, hy]
      show PairsAt G us (edgeL t (ys.take i ++ [r.1]))
      rw [edgeL_snoc, ok.nbAt hr']
      exact hus
  · rintro H' ⟨ts, sm, hD', hts, tl⟩
    rw [eK] at hts tl
    rw [List.take_length] at hts
    have e3 : Ext Ps H H2 := e1.trans (Ext.same s2)
    exact hQ H' D ts ys (e3.trans (Ext.same sm)) (e3.none hD ht) hD' pm hso hts (by omega)
end
end A8
set_option Elab.async false
set_option linter.all false
set_option maxRecDepth 100000
set_option maxHeartbeats 4000000
namespace A8
open PySem PySem.Spec PyProof.Rows L2 AL
/-! ### all walks from v, until one ends at x -/
def bh (p : List Str) : List Str := p.dropLast.getLast?.toList
theorem bh_snoc (p : List Str) (u : Str) : bh (p ++ [u]) = p.getLast?.toList := by
  unfold bh
  rw [List.dropLast_concat]
structure Dfs (t : List Row) (v x : Str) (D S : List (List Str)) : Prop where
  wk : ∀ p ∈ D ++ S, Wk t v p
  nd : (D ++ S).Nodup
  root : [v] ∈ D ++ S
  par : ∀ p ∈ D ++ S, p = [v] ∨ p.dropLast ∈ D
  nx : ∀ p ∈ D, p.getLast? ≠ some x
  cl : ∀ p ∈ D, ∀ u w, p.getLast? = some u → Nb t u w → w ∉ bh p → p ++ [w] ∈ D ++ S
def outs (p row : List Str) : List (List Str) := (row.filter fun w => decide (w ∉ bh p)).map fun w => p ++ [w]
theorem outs_snoc (p row : List Str) (w : Str) : outs p (row ++ [w]) = outs p row ++ if w ∈ bh p then [] else [p ++ [w]] := by
  unfold outs
  rw [List.filter_append, List.map_append]
  by_cases h : w ∈ bh p
  · rw [if_pos h]
    simp [h]
  · rw [if_neg h]
    simp [h]
section
variable {t : List Row} {v x : Str} {ps : List (Str × Str)} {D S : List (List Str)}
theorem Dfs.start : Dfs t v x [] [[v]] where
  wk := fun p hp => by
    rw [List.nil_append, List.mem_singleton] at hp
    rw [hp]
    exact Wk.one
  nd := by simp
  root := List.mem_singleton.mpr rfl
  par := fun p hp => .inl (List.mem_singleton.mp hp)
  nx := fun p hp => absurd hp List.not_mem_nil
  cl := fun p hp => absurd hp List.not_mem_nil
theorem Dfs.step {S0 : List (List Str)} {p1 : List Str} {r : Row} (d : Dfs t v x D (S0 ++ [p1 ++ [r.1]])) (ok : OkTree t) (hr : r ∈ t) (ne : r.1 ≠ x) : Dfs t v x (D ++ [p1 ++ [r.1]]) (S0 ++ outs (p1 ++ [r.1]) r.2.2) := by
  have lastP : (p1 ++ [r.1]).getLast? = some r.1 := last_snoc
  have nd1 := List.nodup_append.mp d.nd
  have nd2 := List.nodup_append.mp nd1.2.1
  have pS : p1 ++ [r.1] ∈ S0 ++ [p1 ++ [r.1]] := List.mem_append_right _ List.mem_cons_self
  have pD : p1 ++ [r.1] ∉ D := fun z => nd1.2.2 _ z _ pS rfl
  have pS0 : p1 ++ [r.1] ∉ S0 := fun z => nd2.2.2 _ z _ List.mem_cons_self rfl
  have old : ∀ q, q ∈ D ++ (S0 ++ [p1 ++ [r.1]]) → q ∈ (D ++ [p1 ++ [r.1]]) ++ (S0 ++ outs (p1 ++ [r.1]) r.2.2) := fun q hq => by
    rcases List.mem_append.mp hq with z | z
    · exact List.mem_append_left _ (List.mem_append_left _ z)
    · rcases List.mem_append.mp z with z | z
      · exact List.mem_append_right _ (List.mem_append_left _ z)
      · exact List.mem_append_left _ (List.mem_append_right _ z)
  have back : ∀ q, q ∈ (D ++ [p1 ++ [r.1]]) ++ (S0 ++ outs (p1 ++ [r.1]) r.2.2) → q ∈ D ++ (S0 ++ [p1 ++ [r.1]]) ∨ q ∈ outs (p1 ++ [r.1]) r.2.2 := fun q hq => by
    rcases List.mem_append.mp hq with z | z
    · rcases List.mem_append.mp z with z | z
      · exact .inl (List.mem_append_left _ z)
      · exact .inl (List.mem_append_right _ (List.mem_append_right _ z))
    · rcases List.mem_append.mp z with z | z
      · exact .inl (List.mem_append_right _ (List.mem_append_left _ z))
      · exact .inr z
  have isNew : ∀ q, q ∈ outs (p1 ++ [r.1]) r.2.2 ↔ ∃ w, w ∈ r.2.2 ∧ w ∉ bh (p1 ++ [r.1]) ∧ q = p1 ++ [r.1] ++ [w] := fun q => by
    unfold outs
    rw [List.mem_map]
    constructor
    · rintro ⟨w, hw, e⟩
      obtain ⟨h1, h2⟩ := List.mem_filter.mp hw
      exact ⟨w, h1, of_decide_eq_true h2, e.symm⟩
    · rintro ⟨w, h1, h2, e⟩
      exact ⟨w, List.mem_filter.mpr ⟨h1, decide_eq_true h2⟩, e.symm⟩
  have newOut : ∀ q, q ∈ outs (p1 ++ [r.1]) r.2.2 → q ∉ D ++ (S0 ++ [p1 ++ [r.1]]) := fun q hq z => by
    obtain ⟨w, _, _, rfl⟩ := (isNew q).mp hq
    rcases d.par _ z with e | e
    · have := congrArg List.length e
      simp only [List.length_append, List.length_cons, List.length_nil] at this
      omega
    · rw [List.dropLast_concat] at e
      exact pD e
  have Wp := d.wk _ (List.mem_append_right _ pS)
  refine ⟨fun q hq => ?_, ?_, old _ d.root, fun q hq => ?_, fun q hq => ?_, fun q hq u w hu hn hw => ?_⟩
  · rcases back q hq with z | z
    · exact d.wk q z
    · obtain ⟨w, h1, h2, rfl⟩ := (isNew q).mp z
      refine Wp.snoc ⟨r, hr, rfl, h1⟩ fun b hb e => h2 ?_
      rw [bh_snoc, hb, e]
      exact List.mem_singleton.mpr rfl
  · refine List.nodup_append.mpr ⟨List.nodup_append.mpr ⟨nd1.1, by simp, fun a ha b hb e => pD (by rw [← List.mem_singleton.mp hb, ← e]; exact ha)⟩, List.nodup_append.mpr ⟨nd2.1, ?_, fun a ha b hb e => ?_⟩, fun a ha b hb e => ?_⟩
    · unfold outs
      have go : ∀ l : List Str, l.Nodup → (l.map fun w => p1 ++ [r.1] ++ [w]).Nodup := fun l => by
        induction l with
        | nil => intro _; exact .nil
        | cons a l ih =>
          intro h
          have h2 := List.nodup_cons.mp h
          rw [List.map_cons, List.nodup_cons]
          refine ⟨fun z => ?_, ih h2.2⟩
          obtain ⟨b, hb, e⟩ := List.mem_map.mp z
          have e2 := List.append_cancel_left e
          injection e2 with e2
          exact h2.1 (e2 ▸ hb)
      exact go _ ((ok.asc r hr).2.sublist (List.filter_sublist))
    · exact newOut b hb (by rw [← e]; exact List.mem_append_right _ (List.mem_append_left _ ha))
    · subst e
      rcases List.mem_append.mp hb with z | z
      · rcases List.mem_append.mp ha with y | y
        · exact nd1.2.2 a y a (List.mem_append_left _ z) rfl
        · rw [List.mem_singleton.mp y] at z
          exact pS0 z
      · refine newOut a z ?_
        rcases List.mem_append.mp ha with y | y
        · exact List.mem_append_left _ y
        · exact List.mem_append_right _ (List.mem_append_right _ y)
  · rcases back q hq with z | z
    · rcases d.par q z with e | e
      · exact .inl e
      · exact .inr (List.mem_append_left _ e)
    · obtain ⟨w, _, _, rfl⟩ := (isNew q).mp z
      rw [List.dropLast_concat]
      exact .inr (List.mem_append_right _ List.mem_cons_self)
  · rcases List.mem_append.mp hq with z | z
    · exact d.nx q z
    · rw [List.mem_singleton.mp z, lastP]
      exact fun e => ne (Option.some.inj e)
  · rcases List.mem_append.mp hq with z | z
    · exact old _ (d.cl q z u w hu hn hw)
    · rw [List.mem_singleton.mp z] at hu hw ⊢
      rw [lastP] at hu
      have eu := Option.some.inj hu
      subst eu
      obtain ⟨r', hr', er, hm⟩ := hn
      rw [ok.one hr' hr er] at hm
      exact List.mem_append_right _ (List.mem_append_right _ ((isNew _).mpr ⟨w, hm, hw, rfl⟩))
theorem Dfs.all (d : Dfs t v x D []) : ∀ (n : Nat) (p : List Str), p.length ≤ n → Wk t v p → p ∈ D
  | 0, p, hn, W => (W.ne (List.eq_nil_of_length_eq_zero (by omega))).elim
  | n + 1, p, hn, W => by
    have out : ∀ q, q ∈ D ++ [] → q ∈ D := fun q hq => by rw [List.append_nil] at hq; exact hq
    obtain ⟨q, w, rfl⟩ := snoc_of W.ne
    by_cases z : q = []
    · have := W.h0
      rw [z] at this ⊢
      rw [Option.some.inj this]
      exact out _ d.root
    · have Wq := W.pre z
      obtain ⟨q', u, rfl⟩ := snoc_of z
      have hl : (q' ++ [u]).length ≤ n := by
        rw [List.length_append] at hn
        simp only [List.length_singleton] at hn
        omega
      have atU : (q' ++ [u] ++ [w])[q'.length]? = some u := by
        rw [List.getElem?_append_left (by rw [List.length_append]; simp), List.getElem?_append_right (Nat.le_refl _), Nat.sub_self]
        rfl
      have atW : (q' ++ [u] ++ [w])[q'.length + 1]? = some w := by
        rw [List.getElem?_append_right (by rw [List.length_append]; exact Nat.le_refl _), List.length_append]
        simp
      refine out _ (d.cl _ (d.all n _ hl Wq) u w last_snoc (W.nb _ _ _ atU atW) fun hw => ?_)
      rw [bh_snoc] at hw
      cases hb : q'.getLast? with
      | none => rw [hb] at hw; exact absurd hw List.not_mem_nil
      | some b =>
        rw [hb] at hw
        have ew : w = b := List.mem_singleton.mp hw
        have q0 : q' ≠ [] := fun y => by rw [y] at hb; cases hb
        have lq := List.length_pos_iff.mpr q0
        rw [List.getLast?_eq_getElem?] at hb
        refine W.nr (q'.length - 1) b w ?_ (by rw [show q'.length - 1 + 2 = q'.length + 1 by omega]; exact atW) ew.symm
        rw [List.getElem?_append_left (by rw [List.length_append]; simp only [List.length_singleton]; omega), List.getElem?_append_left (by omega)]
        exact hb
theorem Dfs.notDone (d : Dfs t v x D []) {p : List Str} (W : Wk t v p) (hl : p.getLast? = some x) : False := d.nx p (d.all _ p (Nat.le_refl _) W) hl
theorem Wk.lastIn {p : List Str} (W : Wk t v p) (ok : OkTree t) (hv : ∃ r ∈ t, r.1 = v) {u : Str} (hu : p.getLast? = some u) : ∃ r ∈ t, r.1 = u := by
  obtain ⟨q, w, rfl⟩ := snoc_of W.ne
  rw [last_snoc] at hu
  have e := Option.some.inj hu
  subst e
  by_cases z : q = []
  · have := W.h0
    rw [z] at this
    have e2 : w = v := Option.some.inj this
    rw [e2]
    exact hv
  · obtain ⟨q', b, rfl⟩ := snoc_of z
    have atU : (q' ++ [b] ++ [w])[q'.length]? = some b := by
      rw [List.getElem?_append_left (by rw [List.length_append]; simp), List.getElem?_append_right (Nat.le_refl _), Nat.sub_self]
      rfl
    have atW : (q' ++ [b] ++ [w])[q'.length + 1]? = some w := by
      rw [List.getElem?_append_right (by rw [List.length_append]; exact Nat.le_refl _), List.length_append]
      simp
    obtain ⟨r, hr, er, hm⟩ := W.nb _ _ _ atU atW
    exact ok.nbs r hr w hm
theorem Dfs.bound (d : Dfs t v x D S) (h : StepsOk t v ps) (ok : OkTree t) (hv : ∃ r ∈ t, r.1 = v) : D.length + S.length ≤ t.length := by
  have go : ∀ l : List (List Str), l.Nodup → (∀ p ∈ l, Wk t v p) → (l.map fun p => p.getLast?.getD Str.empty).Nodup := fun l => by
    induction l with
    | nil => intro _ _; exact .nil
    | cons p l ih =>
      intro nd W
      have n2 := List.nodup_cons.mp nd
      rw [List.map_cons, List.nodup_cons]
      refine ⟨fun z => ?_, ih n2.2 fun q hq => W q (List.mem_cons_of_mem _ hq)⟩
      obtain ⟨q, hq, e⟩ := List.mem_map.mp z
      have W1 := W p List.mem_cons_self
      have W2 := W q (List.mem_cons_of_mem _ hq)
      obtain ⟨p1, a, rfl⟩ := snoc_of W1.ne
      obtain ⟨q1, b, rfl⟩ := snoc_of W2.ne
      rw [last_snoc, last_snoc] at e
      have e2 : b = a := e
      subst e2
      have := Wk.unique h ok _ _ _ (Nat.le_refl _) W1 W2 (by rw [last_snoc, last_snoc])
      rw [this] at n2
      exact n2.1 hq
  have l := OkTree.deg.nodup_sub (ys := t.map (·.1)) (go _ d.nd d.wk) fun y hy => by
    obtain ⟨p, hp, e⟩ := List.mem_map.mp hy
    have W := d.wk p hp
    obtain ⟨p1, a, rfl⟩ := snoc_of W.ne
    rw [last_snoc] at e
    have e2 : a = y := e
    obtain ⟨r, hr, er⟩ := W.lastIn ok hv last_snoc
    exact List.mem_map.mpr ⟨r, hr, er.trans e2⟩
  rw [List.length_map, List.length_map, List.length_append] at l
  exact l
theorem Wk.idx {p : List Str} (W : Wk t v p) (h : StepsOk t v ps) (ok : OkTree t) : ∀ (i : Nat) (a : Str), p[i]? = some a → ∃ (k : Nat) (z : Str), i ≤ k ∧ ps[k]? = some (a, z)
  | 0, a, ha => by
    rw [W.h0] at ha
    exact ⟨0, v, Nat.le_refl _, by rw [← Option.some.inj ha]; exact h.first⟩
  | i + 1, b, hb => by
    have hi : i < p.length := by have := at_lt hb; omega
    have ha : p[i]? = some p[i] := List.getElem?_eq_getElem hi
    obtain ⟨k, z, hk, ek⟩ := W.idx h ok i p[i] ha
    obtain ⟨hm, ne⟩ := W.par h ok i p[i] b ha hb
    obtain ⟨j, lj, ej⟩ := List.mem_iff_getElem.mp hm
    have hj : ps[j]? = some (b, p[i]) := by rw [List.getElem?_eq_getElem lj, ej]
    obtain ⟨j', z', lj', ej'⟩ := h.lower hj ne
    have := h.place ej' ek
    exact ⟨j, _, by omega, hj⟩
theorem Wk.len {p : List Str} (W : Wk t v p) (h : StepsOk t v ps) (ok : OkTree t) : p.length ≤ t.length := by
  have l0 := List.length_pos_iff.mpr W.ne
  have hl : p[p.length - 1]? = some (p[p.length - 1]'(by omega)) := List.getElem?_eq_getElem (by omega)
  obtain ⟨k, z, hk, ek⟩ := W.idx h ok _ _ hl
  have := at_lt ek
  have := (show Part t v ps from ⟨h.first, h.nodup, h.step, h.nodes⟩).len
  omega
end
end A8
set_option Elab.async false
set_option linter.all false
set_option maxRecDepth 100000
set_option maxHeartbeats 4000000
namespace A8
open PySem PySem.Spec PyProof.Rows L2 AL
/-! ### a tree under other names -/
structure Ren (t mt : List Row) (ρ : Str → Str) : Prop where
  inj : ∀ r ∈ t, ∀ s ∈ t, ρ r.1 = ρ s.1 → r.1 = s.1
  nm : mt.map (·.1) = t.map fun r => ρ r.1
  row : ∀ r ∈ mt, ∃ s ∈ t, r.1 = ρ s.1 ∧ r.2.2.Perm (s.2.2.map ρ) ∧ sortedS r.2.2 = true
section
variable {t mt lt : List Row} {ρ : Str → Str} {x v : Str}
theorem Ren.bwd (R : Ren t mt ρ) {s : Row} (hs : s ∈ t) : ∃ r ∈ mt, r.1 = ρ s.1 := by
  have : ρ s.1 ∈ mt.map (·.1) := by
    rw [R.nm]
    exact List.mem_map.mpr ⟨s, hs, rfl⟩
  obtain ⟨r, hr, e⟩ := List.mem_map.mp this
  exact ⟨r, hr, e⟩
theorem nd_mapOn {α β : Type} {f : α → β} : ∀ {l : List α}, l.Nodup → (∀ a ∈ l, ∀ b ∈ l, f a = f b → a = b) → (l.map f).Nodup
  | [], _, _ => .nil
  | a :: l, nd, h => by
    have n2 := List.nodup_cons.mp nd
    rw [List.map_cons, List.nodup_cons]
    refine ⟨fun z => ?_, nd_mapOn n2.2 fun a ha b hb => h a (List.mem_cons_of_mem _ ha) b (List.mem_cons_of_mem _ hb)⟩
    obtain ⟨b, hb, e⟩ := List.mem_map.mp z
    exact n2.1 (h b (List.mem_cons_of_mem _ hb) a List.mem_cons_self e ▸ hb)
theorem Ren.nodup (R : Ren t mt ρ) (ok : OkTree t) : (mt.map (·.1)).Nodup := by
  rw [R.nm]
  have e : (t.map fun r => ρ r.1) = (t.map (·.1)).map ρ := by rw [List.map_map]; rfl
  rw [e]
  refine nd_mapOn ok.nodup fun a ha b hb h => ?_
  obtain ⟨r, hr, rfl⟩ := List.mem_map.mp ha
  obtain ⟨s, hs, rfl⟩ := List.mem_map.mp hb
  exact R.inj r hr s hs h
/-- a neighbour by its own name -/
theorem Ren.nb (R : Ren t mt ρ) (ok : OkTree t) {r : Row} (hr : r ∈ mt) (w : Str) : w ∈ r.2.2 ↔ ∃ s ∈ t, ∃ q ∈ t, r.1 = ρ s.1 ∧ w = ρ q.1 ∧ q.1 ∈ s.2.2 := by
  obtain ⟨s, hs, e, pm, _⟩ := R.row r hr
  rw [pm.mem_iff, List.mem_map]
  constructor
  · rintro ⟨y, hy, rfl⟩
    obtain ⟨q, hq, rfl⟩ := ok.nbs s hs y hy
    exact ⟨s, hs, q, hq, e, rfl, hy⟩
  · rintro ⟨s', hs', q, hq, e', rfl, h⟩
    have : s' = s := ok.one hs' hs (R.inj s' hs' s hs (e'.symm.trans e))
    subst this
    exact ⟨_, h, rfl⟩
theorem Ren.ok (R : Ren t mt ρ) (ok : OkTree t) (nm : ∀ r ∈ t, NameOk (ρ r.1)) : OkTree mt := by
  have len : mt.length = t.length := by
    have := congrArg List.length R.nm
    rw [List.length_map, List.length_map] at this
    exact this
  have n1 := ok.n1
  have n40 := ok.n40
  refine ⟨by omega, by omega, fun r hr => ?_, R.nodup ok, fun r hr y hy => ?_, fun r hr hy => ?_, fun r hr => ?_, fun r hr s hs hy => ?_, ?_, fun S hS cl => ?_⟩
  · obtain ⟨s, hs, e, _⟩ := R.row r hr
    rw [e]
    exact nm s hs
  · obtain ⟨s, hs, q, hq, _, rfl, _⟩ := (R.nb ok hr y).mp hy
    obtain ⟨r', hr', e⟩ := R.bwd hq
    exact ⟨r', hr', e⟩
  · obtain ⟨s, hs, q, hq, e, e2, h⟩ := (R.nb ok hr _).mp hy
    have : q.1 = s.1 := R.inj q hq s hs (e2.symm.trans e)
    rw [this] at h
    exact ok.self s hs h
  · obtain ⟨s, hs, e, pm, so⟩ := R.row r hr
    refine ⟨so, pm.symm.nodup (nd_mapOn (ok.asc s hs).2 fun a ha b hb h => ?_)⟩
    obtain ⟨p, hp, rfl⟩ := ok.nbs s hs a ha
    obtain ⟨q, hq, rfl⟩ := ok.nbs s hs b hb
    exact R.inj p hp q hq h
  · obtain ⟨p, hp, q, hq, e, e2, h⟩ := (R.nb ok hr _).mp hy
    exact (R.nb ok hs _).mpr ⟨q, hq, p, hp, e2, e, ok.sym p hp q hq h⟩
  · have e : (mt.map fun r => r.2.2.length) = t.map fun r => r.2.2.length := by
      have e1 : (mt.map fun r => r.2.2.length) = (mt.map (·.1)).map fun a => degOf (mt) a := by
        rw [List.map_map]
        refine List.map_congr_left fun r hr => ?_
        show r.2.2.length = degOf mt r.1
        unfold degOf
        cases q : mt.find? (fun s => decide (s.1 = r.1)) with
        | none =>
          have := List.find?_eq_none.mp q r hr
          simp at this
        | some s =>
          have h2 := List.mem_of_find?_eq_some q
          have h1 : s.1 = r.1 := by simpa using List.find?_some q
          have := OkTree.one.inj_of_nodup (R.nodup ok) h2 hr h1
          rw [this]
      rw [e1, R.nm, List.map_map]
      refine List.map_congr_left fun s hs => ?_
      show degOf mt (ρ s.1) = s.2.2.length
      obtain ⟨r, hr, er⟩ := R.bwd hs
      unfold degOf
      cases q : mt.find? (fun u => decide (u.1 = ρ s.1)) with
      | none =>
        have := List.find?_eq_none.mp q r hr
        rw [er] at this
        simp at this
      | some u =>
        have h2 := List.mem_of_find?_eq_some q
        have h1 : u.1 = ρ s.1 := by simpa using List.find?_some q
        obtain ⟨s', hs', e', pm, _⟩ := R.row u h2
        have : s' = s := ok.one hs' hs (R.inj s' hs' s hs (e'.symm.trans h1))
        subst this
        show u.2.2.length = _
        rw [pm.length_eq, List.length_map]
    rw [e, len]
    exact ok.ends
  · have all := ok.conn (fun a => S (ρ a)) (by
      obtain ⟨r, hr, h⟩ := hS
      obtain ⟨s, hs, e, _⟩ := R.row r hr
      exact ⟨s, hs, e ▸ h⟩) fun s hs h y hy => by
        obtain ⟨r, hr, er⟩ := R.bwd hs
        obtain ⟨q, hq, rfl⟩ := ok.nbs s hs y hy
        exact cl r hr (er ▸ h) _ ((R.nb ok hr _).mpr ⟨s, hs, q, hq, er, rfl, hy⟩)
    intro r hr
    obtain ⟨s, hs, e, _⟩ := R.row r hr
    rw [e]
    exact all s hs
theorem Ren.nbUp (R : Ren t mt ρ) (ok : OkTree t) {a b : Str} (h : Nb t a b) : Nb mt (ρ a) (ρ b) := by
  obtain ⟨s, hs, rfl, hb⟩ := h
  obtain ⟨q, hq, rfl⟩ := ok.nbs s hs b hb
  obtain ⟨r, hr, er⟩ := R.bwd hs
  exact ⟨r, hr, er, (R.nb ok hr _).mpr ⟨s, hs, q, hq, er, rfl, hb⟩⟩
theorem Nb.left {a b : Str} (h : Nb t a b) : ∃ r ∈ t, r.1 = a := by
  obtain ⟨r, hr, e, _⟩ := h
  exact ⟨r, hr, e⟩
theorem Nb.right (ok : OkTree t) {a b : Str} (h : Nb t a b) : ∃ r ∈ t, r.1 = b := by
  obtain ⟨r, hr, _, hb⟩ := h
  exact ok.nbs r hr b hb
theorem Wk.map (R : Ren t mt ρ) (ok : OkTree t) {p : List Str} (W : Wk t v p) : Wk mt (ρ v) (p.map ρ) where
  h0 := by rw [List.getElem?_map, W.h0]; rfl
  nb := fun i a b h1 h2 => by
    rw [List.getElem?_map] at h1 h2
    cases q1 : p[i]? with
    | none => rw [q1] at h1; cases h1
    | some a' =>
      cases q2 : p[i + 1]? with
      | none => rw [q2] at h2; cases h2
      | some b' =>
        rw [q1] at h1; rw [q2] at h2
        rw [← Option.some.inj h1, ← Option.some.inj h2]
        exact R.nbUp ok (W.nb i a' b' q1 q2)
  nr := fun i a b h1 h2 e => by
    rw [List.getElem?_map] at h1 h2
    cases q1 : p[i]? with
    | none => rw [q1] at h1; cases h1
    | some a' =>
      cases q2 : p[i + 2]? with
      | none => rw [q2] at h2; cases h2
      | some b' =>
        rw [q1] at h1; rw [q2] at h2
        have ea : ρ a' = a := Option.some.inj h1
        have eb : ρ b' = b := Option.some.inj h2
        have l1 : i + 1 < p.length := by have := at_lt q2; omega
        have qm : p[i + 1]? = some p[i + 1] := List.getElem?_eq_getElem l1
        obtain ⟨r, hr, e1⟩ := (W.nb i a' _ q1 qm).left
        obtain ⟨s, hs, e2⟩ := (W.nb (i + 1) _ b' qm q2).right ok
        refine W.nr i a' b' q1 q2 ?_
        rw [← e1, ← e2]
        exact R.inj r hr s hs (by rw [e1, e2, ea, eb, e])
/-- a walk stands in a greater tree -/
theorem Wk.up {p : List Str} (h : ∀ a b, Nb t a b → Nb lt a b) (W : Wk t v p) : Wk lt v p := ⟨W.h0, fun i a b h1 h2 => h a b (W.nb i a b h1 h2), W.nr⟩
theorem Join.nbUp (j : Join t x v lt) (ok : OkTree t) (hx : x ∉ t.map (·.1)) (hv : v ∈ t.map (·.1)) {a b : Str} (h : Nb t a b) : Nb lt a b := by
  obtain ⟨s, hs, rfl, hb⟩ := h
  obtain ⟨r, hr, er⟩ := j.of (.inr (List.mem_map.mpr ⟨s, hs, rfl⟩))
  exact ⟨r, hr, er, (j.mem ok hx hv hr b).mpr (.inl ⟨s, hs, er.symm, hb⟩)⟩
theorem Join.wk (j : Join t x v lt) (ok : OkTree t) (hx : x ∉ t.map (·.1)) (hv : v ∈ t.map (·.1)) {p : List Str} (W : Wk t v p) : Wk lt x (x :: p) where
  h0 := rfl
  nb := fun i a b h1 h2 => by
    cases i with
    | zero =>
      rw [List.getElem?_cons_succ, W.h0] at h2
      rw [List.getElem?_cons_zero] at h1
      rw [← Option.some.inj h1, ← Option.some.inj h2]
      obtain ⟨r, hr, er⟩ := j.of (.inl rfl)
      exact ⟨r, hr, er, (j.mem ok hx hv hr v).mpr (.inr (.inl ⟨er, rfl⟩))⟩
    | succ i =>
      rw [List.getElem?_cons_succ] at h1 h2
      exact j.nbUp ok hx hv (W.nb i a b h1 h2)
  nr := fun i a b h1 h2 e => by
    cases i with
    | zero =>
      rw [List.getElem?_cons_zero] at h1
      rw [List.getElem?_cons_succ] at h2
      obtain ⟨r, hr, er⟩ := (W.nb 0 v b W.h0 h2).right ok
      exact hx (List.mem_map.mpr ⟨r, hr, by rw [er, ← e, ← Option.some.inj h1]⟩)
    | succ i =>
      rw [List.getElem?_cons_succ] at h1 h2
      exact W.nr i a b h1 h2 e
/-- a leaf here, a leaf there: in either order -/
theorem join2 {y u : Str} {l2 m1 m2 : List Row} (ok : OkTree t) (j1 : Lf t x v lt) (j2 : Lf lt y u l2) (k1 : Lf t y u m1) (k2 : Lf m1 x v m2) (okl : OkTree lt) (okm : OkTree m1) (xy : x ≠ y)
    (hx : x ∉ t.map (·.1)) (hy : y ∉ t.map (·.1)) (hv : v ∈ t.map (·.1)) (hu : u ∈ t.map (·.1)) : (l2.map fun r => (r.1, r.2.2)) = m2.map fun r => (r.1, r.2.2) := by
  have inL : ∀ {a : Str}, a ∈ t.map (·.1) → a ∈ lt.map (·.1) := fun {a} h => by
    obtain ⟨r, hr, e⟩ := j1.toJoin.of (.inr h)
    exact List.mem_map.mpr ⟨r, hr, e⟩
  have inM : ∀ {a : Str}, a ∈ t.map (·.1) → a ∈ m1.map (·.1) := fun {a} h => by
    obtain ⟨r, hr, e⟩ := k1.toJoin.of (.inr h)
    exact List.mem_map.mpr ⟨r, hr, e⟩
  have yL : y ∉ lt.map (·.1) := fun z => by
    rcases List.mem_cons.mp (j1.nm.subset z) with e | e
    · exact xy e.symm
    · exact hy e
  have xM : x ∉ m1.map (·.1) := fun z => by
    rcases List.mem_cons.mp (k1.nm.subset z) with e | e
    · exact xy e
    · exact hx e
  have okl2 := List.nodup_cons.mpr ⟨yL, okl.nodup⟩
  have okm2 := List.nodup_cons.mpr ⟨xM, okm.nodup⟩
  have n2 : (l2.map (·.1)).Nodup := j2.nm.symm.nodup okl2
  have nm2 : (m2.map (·.1)).Nodup := k2.nm.symm.nodup okm2
  have names : l2.map (·.1) = m2.map (·.1) := sorted_eq j2.so n2 k2.so nm2 fun k => by
    rw [j2.nm.mem_iff, k2.nm.mem_iff, List.mem_cons, List.mem_cons, j1.nm.mem_iff, k1.nm.mem_iff, List.mem_cons, List.mem_cons]
    constructor
    · rintro (h | h | h)
      · exact .inr (.inl h)
      · exact .inl h
      · exact .inr (.inr h)
    · rintro (h | h | h)
      · exact .inr (.inl h)
      · exact .inl h
      · exact .inr (.inr h)
  have adj : ∀ {jt : List Row} {x v : Str}, Join t x v jt → x ∉ t.map (·.1) → v ∈ t.map (·.1) → ∀ a b, Adj jt a b ↔ (a ∈ jt.map (·.1) ∧ (Adj t a b ∨ (a = x ∧ b = v) ∨ (a = v ∧ b = x))) := fun {jt x v} j hx hv a b => by
    constructor
    · rintro ⟨r, hr, rfl, h⟩
      exact ⟨List.mem_map.mpr ⟨r, hr, rfl⟩, (j.mem ok hx hv hr b).mp h⟩
    · rintro ⟨h, h2⟩
      obtain ⟨r, hr, rfl⟩ := List.mem_map.mp h
      exact ⟨r, hr, rfl, (j.mem ok hx hv hr b).mpr h2⟩
  refine rows_eq names fun r hr s hs e => ?_
  -- sorted, each once
  have asc : ∀ {jt kt : List Row} {x v : Str}, Join jt x v kt → OkTree jt → x ∉ jt.map (·.1) → v ∈ jt.map (·.1) → ∀ r ∈ kt, sortedS r.2.2 = true ∧ r.2.2.Nodup := fun {jt kt x v} j o hx hv r hr => by
    rcases j.row r hr with ⟨_, e⟩ | ⟨s, hs, e, h⟩
    · rw [e]
      exact ⟨rfl, by simp⟩
    · rcases h with ⟨_, h⟩ | ⟨_, pm, so⟩
      · rw [h]
        exact o.asc s hs
      · refine ⟨so, pm.symm.nodup (List.nodup_append.mpr ⟨(o.asc s hs).2, by simp, fun a ha b hb q => ?_⟩)⟩
        rw [List.mem_singleton.mp hb] at q
        obtain ⟨u, hu, eu⟩ := o.nbs s hs a ha
        exact hx (List.mem_map.mpr ⟨u, hu, eu.trans q⟩)
  have a1 := asc j2.toJoin okl yL (inL hu) r hr
  have a2 := asc k2.toJoin okm xM (inM hv) s hs
  refine sorted_eq a1.1 a1.2 a2.1 a2.2 fun k => ?_
  rw [j2.toJoin.mem okl yL (inL hu) hr k, k2.toJoin.mem okm xM (inM hv) hs k, adj j1.toJoin hx hv, adj k1.toJoin hy hu, e]
  have inv : ∀ a b, Adj t a b → a ∈ lt.map (·.1) ∧ a ∈ m1.map (·.1) := fun a b ⟨q, hq, e, _⟩ => ⟨inL (List.mem_map.mpr ⟨q, hq, e⟩), inM (List.mem_map.mpr ⟨q, hq, e⟩)⟩
  have xL : x ∈ lt.map (·.1) := by
    obtain ⟨q, hq, e⟩ := j1.toJoin.of (.inl rfl)
    exact List.mem_map.mpr ⟨q, hq, e⟩
  have yM : y ∈ m1.map (·.1) := by
    obtain ⟨q, hq, e⟩ := k1.toJoin.of (.inl rfl)
    exact List.mem_map.mpr ⟨q, hq, e⟩
  constructor
  · rintro (⟨_, h | h | h⟩ | h | h)
    · exact .inl ⟨(inv _ _ h).2, .inl h⟩
    · exact .inr (.inl h)
    · exact .inr (.inr h)
    · exact .inl ⟨h.1 ▸ yM, .inr (.inl h)⟩
    · exact .inl ⟨h.1 ▸ inM hu, .inr (.inr h)⟩
  · rintro (⟨_, h | h | h⟩ | h | h)
    · exact .inl ⟨(inv _ _ h).1, .inl h⟩
    · exact .inr (.inl h)
    · exact .inr (.inr h)
    · exact .inl ⟨h.1 ▸ xL, .inr (.inl h)⟩
    · exact .inl ⟨h.1 ▸ inL hv, .inr (.inr h)⟩
end
end A8
set_option Elab.async false
set_option linter.all false
set_option maxRecDepth 100000
set_option maxHeartbeats 4000000
namespace A8
open PySem PySem.Spec PyProof.Rows L2 AL
open SrtO (Swo Srtd Stb)
/-! ### the edges, each once and in order -/
section
variable {t mt : List Row} {ρ : Str → Str}
theorem mem_upE {y a b : Str} {zs : List Str} : (a, b) ∈ upE y zs ↔ a = y ∧ b ∈ zs ∧ sLt y b := by
  unfold upE
  rw [List.mem_map]
  constructor
  · rintro ⟨z, hz, e⟩
    injection e with e1 e2
    obtain ⟨h1, h2⟩ := List.mem_filter.mp hz
    exact ⟨e1.symm, e2 ▸ h1, e2 ▸ of_decide_eq_true h2⟩
  · rintro ⟨e, h1, h2⟩
    exact ⟨b, List.mem_filter.mpr ⟨h1, decide_eq_true h2⟩, by rw [e]⟩
theorem mem_edgeL (ok : OkTree t) {ys : List Str} (hy : ∀ y, y ∈ ys ↔ y ∈ t.map (·.1)) {a b : Str} : (a, b) ∈ edgeL t ys ↔ Nb t a b ∧ sLt a b := by
  unfold edgeL
  rw [List.mem_flatMap]
  constructor
  · rintro ⟨y, hm, h⟩
    obtain ⟨e, h1, h2⟩ := mem_upE.mp h
    obtain ⟨r, hr, er⟩ := List.mem_map.mp ((hy y).mp hm)
    subst er
    subst e
    rw [ok.nbAt hr] at h1
    exact ⟨⟨r, hr, rfl, h1⟩, h2⟩
  · rintro ⟨⟨r, hr, e, h1⟩, h2⟩
    subst e
    exact ⟨r.1, (hy _).mpr (List.mem_map.mpr ⟨r, hr, rfl⟩), mem_upE.mpr ⟨rfl, by rw [ok.nbAt hr]; exact h1, h2⟩⟩
def ltP (p q : Str × Str) : Prop := sLt p.1 q.1 ∨ (p.1 = q.1 ∧ sLt p.2 q.2)
theorem sLt_of {a b : Str} (h : ¬ sLt b a) (ne : a ≠ b) : sLt a b := Decidable.byContradiction fun z => ne (sLt_tri h z)
/-- strictly ascending -/
theorem edgeL_asc (ok : OkTree t) : ∀ {ys : List Str}, ys.Pairwise (fun a b => ¬ sLt b a) → ys.Nodup → (∀ y ∈ ys, y ∈ t.map (·.1)) → (edgeL t ys).Pairwise ltP
  | [], _, _, _ => .nil
  | y :: ys, so, nd, h => by
    have n2 := List.nodup_cons.mp nd
    show (upE y (nbO t y) ++ edgeL t ys).Pairwise ltP
    refine List.pairwise_append.mpr ⟨?_, edgeL_asc ok (List.Pairwise.of_cons so) n2.2 fun z hz => h z (List.mem_cons_of_mem _ hz), fun p hp q hq => ?_⟩
    · obtain ⟨r, hr, er⟩ := List.mem_map.mp (h y List.mem_cons_self)
      subst er
      rw [ok.nbAt hr]
      have asc := ok.asc r hr
      unfold upE
      refine List.pairwise_map.mpr (List.Pairwise.filter _ ?_)
      have go : ∀ l : List Str, l.Pairwise (fun a b => ¬ sLt b a) → l.Nodup → l.Pairwise fun a b => ltP (r.1, a) (r.1, b) := fun l => by
        induction l with
        | nil => intro _ _; exact .nil
        | cons a l ih =>
          intro h1 h2
          have h3 := List.nodup_cons.mp h2
          exact List.pairwise_cons.mpr ⟨fun b hb => .inr ⟨rfl, sLt_of (List.rel_of_pairwise_cons h1 hb) fun e => h3.1 (by rw [show a = b from e]; exact hb)⟩, ih (List.Pairwise.of_cons h1) h3.2⟩
      exact go _ (sortedS_pw asc.1) asc.2
    · obtain ⟨a, b⟩ := p
      obtain ⟨c, d⟩ := q
      have e1 := (mem_upE.mp hp).1
      unfold edgeL at hq
      obtain ⟨z, hz, hq⟩ := List.mem_flatMap.mp hq
      have e2 := (mem_upE.mp hq).1
      subst e1 e2
      exact .inl (sLt_of (List.rel_of_pairwise_cons so hz) fun e => n2.1 (by rw [show a = c from e]; exact hz))
theorem ltP_irr (p : Str × Str) : ¬ ltP p p := fun h => by
  rcases h with h | ⟨_, h⟩
  · exact sLt_irrefl _ h
  · exact sLt_irrefl _ h
theorem ltP_asym {p q : Str × Str} (h : ltP p q) : ¬ ltP q p := fun k => by
  have a := lexS_iff.mpr h
  have b := lexS_iff.mpr k
  have := (swo_lexS (α := Str × Str) id).asym p q a
  rw [show lexS (id q) (id p) = lexS q p from rfl, b] at this
  cases this
/-- one list only -/
theorem asc_one : ∀ {l m : List (Str × Str)}, l.Pairwise ltP → m.Pairwise ltP → (∀ p, p ∈ l ↔ p ∈ m) → l = m
  | [], [], _, _, _ => rfl
  | a :: l, [], _, _, h => absurd ((h a).mp List.mem_cons_self) List.not_mem_nil
  | [], b :: m, _, _, h => absurd ((h b).mpr List.mem_cons_self) List.not_mem_nil
  | a :: l, b :: m, hl, hm, h => by
    have hl2 := List.pairwise_cons.mp hl
    have hm2 := List.pairwise_cons.mp hm
    have e : a = b := by
      rcases List.mem_cons.mp ((h a).mp List.mem_cons_self) with z | z
      · exact z
      · rcases List.mem_cons.mp ((h b).mpr List.mem_cons_self) with y | y
        · exact y.symm
        · exact (ltP_asym (hm2.1 a z) (hl2.1 b y)).elim
    subst e
    rw [asc_one hl2.2 hm2.2 fun p => ⟨fun hp => ?_, fun hp => ?_⟩]
    · rcases List.mem_cons.mp ((h p).mp (List.mem_cons_of_mem _ hp)) with z | z
      · rw [z] at hp
        exact (ltP_irr _ (hl2.1 _ hp)).elim
      · exact z
    · rcases List.mem_cons.mp ((h p).mpr (List.mem_cons_of_mem _ hp)) with z | z
      · rw [z] at hp
        exact (ltP_irr _ (hm2.1 _ hp)).elim
      · exact z
/-- both ends under their other names, the less first -/
def ordP (a b : Str) : Str × Str := if sLt b a then (b, a) else (a, b)
theorem ordP_of {ys : List Str} {a b : Str} (pm : ys.Perm [a, b]) (so : sortedS ys = true) : ys = [(ordP a b).1, (ordP a b).2] := by
  have pw := sortedS_pw so
  have l := pm.length_eq
  match ys, l with
  | [c, d], _ =>
    have h := List.rel_of_pairwise_cons pw (List.mem_cons_self (a := d) (l := []))
    have hc : c = a ∨ c = b := by
      have := pm.subset (List.mem_cons_self (a := c) (l := [d]))
      simpa using this
    unfold ordP
    rcases hc with rfl | rfl
    · have e : [d].Perm [b] := (List.perm_cons c).mp pm
      have e2 : d = b := by simpa using e.subset List.mem_cons_self
      subst e2
      rw [if_neg h]
    · have e : [d].Perm [a] := (List.perm_cons c).mp (pm.trans (List.Perm.swap c a []))
      have e2 : d = a := by simpa using e.subset List.mem_cons_self
      subst e2
      by_cases q : sLt c d
      · rw [if_pos q]
      · rw [if_neg q, sLt_tri q h]
theorem ren_edges (R : Ren t mt ρ) (ok : OkTree t) (okm : OkTree mt) {ys zs : List Str} (hy : ys.Perm (t.map (·.1))) (hz : zs.Perm (mt.map (·.1))) (so : sortedS zs = true) {out : List (Str × Str)}
    (po : out.Perm ((edgeL t ys).map fun q => ordP (ρ q.1) (ρ q.2))) (ho : out.Pairwise fun x y => lexS y x = false) : edgeL mt zs = out := by
  have inY : ∀ y, y ∈ ys ↔ y ∈ t.map (·.1) := fun y => hy.mem_iff
  have inZ : ∀ y, y ∈ zs ↔ y ∈ mt.map (·.1) := fun y => hz.mem_iff
  have ne : ∀ {a b : Str}, Nb t a b → ρ a ≠ ρ b := fun {a b} h e => by
    obtain ⟨r, hr, er⟩ := h.left
    obtain ⟨s, hs, es⟩ := h.right ok
    have := R.inj r hr s hs (by rw [er, es, e])
    obtain ⟨q, hq, eq, hm⟩ := h
    exact ok.self q hq (by rw [eq, ← er, this, es]; exact hm)
  have mem : ∀ p, p ∈ edgeL mt zs ↔ p ∈ out := fun p => by
    obtain ⟨u, w⟩ := p
    rw [mem_edgeL okm inZ, po.mem_iff, List.mem_map]
    constructor
    · rintro ⟨⟨r, hr, er, hm⟩, lt⟩
      obtain ⟨s, hs, q, hq, e1, e2, h⟩ := (R.nb ok hr w).mp hm
      rw [er] at e1
      subst e1 e2
      have nb : Nb t s.1 q.1 := ⟨s, hs, rfl, h⟩
      by_cases c : sLt s.1 q.1
      · refine ⟨(s.1, q.1), (mem_edgeL ok inY).mpr ⟨nb, c⟩, ?_⟩
        show ordP (ρ s.1) (ρ q.1) = _
        unfold ordP
        rw [if_neg (sLt_asymm lt)]
      · have nb' : Nb t q.1 s.1 := ⟨q, hq, rfl, ok.sym s hs q hq h⟩
        have c' : sLt q.1 s.1 := sLt_of c fun e => ne nb (by rw [e])
        refine ⟨(q.1, s.1), (mem_edgeL ok inY).mpr ⟨nb', c'⟩, ?_⟩
        show ordP (ρ q.1) (ρ s.1) = _
        unfold ordP
        rw [if_pos lt]
    · rintro ⟨⟨a, b⟩, hab, e⟩
      obtain ⟨nb, c⟩ := (mem_edgeL ok inY).mp hab
      have n' := ne nb
      have e : ordP (ρ a) (ρ b) = (u, w) := e
      unfold ordP at e
      by_cases q : sLt (ρ b) (ρ a)
      · rw [if_pos q] at e
        injection e with e1 e2
        subst e1 e2
        obtain ⟨r, hr, er, hm⟩ := nb
        obtain ⟨s, hs, es⟩ := ok.nbs r hr b hm
        exact ⟨R.nbUp ok ⟨s, hs, es, er ▸ ok.sym r hr s hs (by rw [es]; exact hm)⟩, q⟩
      · rw [if_neg q] at e
        injection e with e1 e2
        subst e1 e2
        exact ⟨R.nbUp ok nb, sLt_of q n'⟩
  have zn : zs.Nodup := hz.symm.nodup okm.nodup
  have yn : ys.Nodup := hy.symm.nodup ok.nodup
  have a1 := edgeL_asc okm (sortedS_pw so) zn fun y h => (inZ y).mp h
  refine asc_one a1 ?_ mem
  -- each once
  have ndE : (edgeL t ys).Nodup := by
    unfold edgeL
    have go : ∀ l : List Str, l.Nodup → (∀ y ∈ l, y ∈ t.map (·.1)) → (l.flatMap fun y => upE y (nbO t y)).Nodup := fun l => by
      induction l with
      | nil => intro _ _; exact .nil
      | cons y l ih =>
        intro nd hin
        have n2 := List.nodup_cons.mp nd
        rw [List.flatMap_cons]
        refine List.nodup_append.mpr ⟨?_, ih n2.2 fun z hz => hin z (List.mem_cons_of_mem _ hz), fun p hp q hq e => ?_⟩
        · obtain ⟨r, hr, er⟩ := List.mem_map.mp (hin y List.mem_cons_self)
          subst er
          rw [ok.nbAt hr]
          unfold upE
          exact nd_mapOn ((ok.asc r hr).2.sublist List.filter_sublist) fun a _ b _ e => by injection e
        · obtain ⟨a, b⟩ := p
          subst e
          obtain ⟨z, hz, hq⟩ := List.mem_flatMap.mp hq
          have e1 := (mem_upE.mp hp).1
          have e2 := (mem_upE.mp hq).1
          exact n2.1 (by rw [← e1, e2]; exact hz)
    exact go ys yn fun y h => (inY y).mp h
  have ndO : out.Nodup := by
    refine po.symm.nodup (nd_mapOn ndE fun p hp q hq e => ?_)
    obtain ⟨a, b⟩ := p
    obtain ⟨c, d⟩ := q
    obtain ⟨n1, l1⟩ := (mem_edgeL ok inY).mp hp
    obtain ⟨n2, l2⟩ := (mem_edgeL ok inY).mp hq
    obtain ⟨ra, hra, era⟩ := n1.left
    obtain ⟨rb, hrb, erb⟩ := n1.right ok
    obtain ⟨rc, hrc, erc⟩ := n2.left
    obtain ⟨rd, hrd, erd⟩ := n2.right ok
    have inj : ∀ {r s : Row}, r ∈ t → s ∈ t → ρ r.1 = ρ s.1 → r.1 = s.1 := fun h1 h2 e => R.inj _ h1 _ h2 e
    subst era erb erc erd
    have e : ordP (ρ ra.1) (ρ rb.1) = ordP (ρ rc.1) (ρ rd.1) := e
    unfold ordP at e
    by_cases p1 : sLt (ρ rb.1) (ρ ra.1) <;> by_cases p2 : sLt (ρ rd.1) (ρ rc.1)
    · rw [if_pos p1, if_pos p2] at e
      injection e with e1 e2
      rw [inj hra hrc e2, inj hrb hrd e1]
    · rw [if_pos p1, if_neg p2] at e
      injection e with e1 e2
      rw [inj hrb hrc e1, inj hra hrd e2] at l1
      exact (sLt_asymm l1 l2).elim
    · rw [if_neg p1, if_pos p2] at e
      injection e with e1 e2
      rw [inj hra hrd e1, inj hrb hrc e2] at l1
      exact (sLt_asymm l1 l2).elim
    · rw [if_neg p1, if_neg p2] at e
      injection e with e1 e2
      rw [inj hra hrc e1, inj hrb hrd e2]
  have go : ∀ l : List (Str × Str), l.Pairwise (fun x y => lexS y x = false) → l.Nodup → l.Pairwise ltP := fun l => by
    induction l with
    | nil => intro _ _; exact .nil
    | cons a l ih =>
      intro h1 h2
      have h3 := List.nodup_cons.mp h2
      refine List.pairwise_cons.mpr ⟨fun b hb => ?_, ih (List.Pairwise.of_cons h1) h3.2⟩
      have nl := lexS_no.mp (List.rel_of_pairwise_cons h1 hb)
      have ab : a ≠ b := fun e => h3.1 (e ▸ hb)
      by_cases q : a.1 = b.1
      · refine .inr ⟨q, sLt_of (fun z => nl (.inr ⟨q.symm, z⟩)) fun e => ab ?_⟩
        cases a; cases b
        exact Prod.ext q e
      · exact .inl (sLt_of (fun z => nl (.inl z)) q)
  exact go out ho ndO
/-- one edge less than nodes -/
theorem edgeL_count (ok : OkTree t) {ys : List Str} (hy : ys.Perm (t.map (·.1))) : (edgeL t ys).length + 1 = t.length := by
  have len : ∀ l : List Str, (edgeL t l).length = (l.map fun y => ((nbO t y).filter fun z => decide (sLt y z)).length).sum := fun l => by
    induction l with
    | nil => rfl
    | cons y l ih =>
      show (upE y (nbO t y) ++ edgeL t l).length = _
      rw [List.length_append, ih, List.map_cons, List.sum_cons]
      unfold upE
      rw [List.length_map]
  have e1 : (edgeL t ys).length = ((t.map (·.1)).map fun y => ((nbO t y).filter fun z => decide (sLt y z)).length).sum := by
    rw [len, perm_sum' (hy.map _)]
  have up : (edgeL t (t.map (·.1))).length = (edgeL t ys).length := by rw [len, e1]
  -- up and down
  have split : ((edgesD t).filter fun q => decide (sLt q.1 q.2)).length + ((edgesD t).filter fun q => !decide (sLt q.1 q.2)).length = (edgesD t).length := by
    induction edgesD t with
    | nil => rfl
    | cons a l ih =>
      by_cases h : sLt a.1 a.2
      · simp only [List.filter_cons, h, decide_true, if_true, Bool.not_true, Bool.false_eq_true, if_false, List.length_cons]
        omega
      · simp only [List.filter_cons, h, decide_false, if_false, Bool.not_false, if_true, List.length_cons, Bool.false_eq_true]
        omega
  have ndD : (edgesD t).Nodup := by
    unfold edgesD
    have go : ∀ l : List Row, (∀ r ∈ l, r ∈ t) → (l.map (·.1)).Nodup → (l.flatMap fun r => r.2.2.map fun y => (r.1, y)).Nodup := fun l => by
      induction l with
      | nil => intro _ _; exact .nil
      | cons r l ih =>
        intro hin nd
        rw [List.map_cons] at nd
        have n2 := List.nodup_cons.mp nd
        rw [List.flatMap_cons]
        refine List.nodup_append.mpr ⟨nd_mapOn (ok.asc r (hin r List.mem_cons_self)).2 fun a _ b _ e => by injection e, ih (fun s hs => hin s (List.mem_cons_of_mem _ hs)) n2.2, fun p hp q hq e => ?_⟩
        subst e
        obtain ⟨y, _, e1⟩ := List.mem_map.mp hp
        obtain ⟨s, hs, hq⟩ := List.mem_flatMap.mp hq
        obtain ⟨z, _, e2⟩ := List.mem_map.mp hq
        rw [← e1] at e2
        injection e2 with e2 _
        exact n2.1 (List.mem_map.mpr ⟨s, hs, e2⟩)
    exact go t (fun r hr => hr) ok.nodup
  have swap : ((edgesD t).filter fun q => !decide (sLt q.1 q.2)).length = ((edgesD t).filter fun q => decide (sLt q.1 q.2)).length := by
    have nbS : ∀ {a b : Str}, Nb t a b → Nb t b a := fun {a b} ⟨r, hr, er, hm⟩ => by
      obtain ⟨s, hs, es⟩ := ok.nbs r hr b hm
      exact ⟨s, hs, es, er ▸ ok.sym r hr s hs (by rw [es]; exact hm)⟩
    have irr : ∀ {a b : Str}, Nb t a b → a ≠ b := fun {a b} ⟨r, hr, er, hm⟩ e => ok.self r hr (by rw [er, e]; exact hm)
    have half : ∀ (f g : Str × Str → Bool), (∀ a b, Nb t a b → f (a, b) = true → g (b, a) = true) → ((edgesD t).filter f).length ≤ ((edgesD t).filter g).length := fun f g h => by
      have nd : (((edgesD t).filter f).map fun q => (q.2, q.1)).Nodup := nd_mapOn (ndD.sublist List.filter_sublist) fun a _ b _ e => by
        injection e with e1 e2
        exact Prod.ext e2 e1
      have := StepsOk.par.pigeon (ys := (edgesD t).filter g) nd fun y hy => by
        obtain ⟨q, hq, e⟩ := List.mem_map.mp hy
        obtain ⟨h1, h2⟩ := List.mem_filter.mp hq
        have nb := mem_edgesD.mp (show (q.1, q.2) ∈ edgesD t from h1)
        rw [← e]
        exact List.mem_filter.mpr ⟨mem_edgesD.mpr (nbS nb), h q.1 q.2 nb h2⟩
      rw [List.length_map] at this
      exact this
    refine Nat.le_antisymm (half _ _ fun a b nb h => ?_) (half _ _ fun a b nb h => ?_)
    · have h' : ¬ sLt a b := fun z => by
        have : (!decide (sLt a b)) = true := h
        rw [decide_eq_true z] at this
        cases this
      exact decide_eq_true (sLt_of h' (irr nb).symm)
    · have h' : sLt a b := of_decide_eq_true h
      show (!decide (sLt b a)) = true
      rw [decide_eq_false (sLt_asymm h')]
      rfl
  have upD : (edgeL t (t.map (·.1))).length = ((edgesD t).filter fun q => decide (sLt q.1 q.2)).length := by
    rw [len]
    have go : ∀ l : List Row, (∀ r ∈ l, r ∈ t) → ((l.map (·.1)).map fun y => ((nbO t y).filter fun z => decide (sLt y z)).length).sum = ((l.flatMap fun r => r.2.2.map fun y => (r.1, y)).filter fun q => decide (sLt q.1 q.2)).length := fun l => by
      induction l with
      | nil => intro _; rfl
      | cons r l ih =>
        intro hin
        rw [List.map_cons, List.map_cons, List.sum_cons, ih fun s hs => hin s (List.mem_cons_of_mem _ hs), List.flatMap_cons, List.filter_append, List.length_append, ok.nbAt (hin r List.mem_cons_self), List.filter_map, List.length_map]
        rfl
    exact go t fun r hr => hr
  have l2 := ok.ends
  have l3 := len_edgesD t
  omega
end
end A8
set_option Elab.async false
set_option linter.all false
set_option maxRecDepth 100000
set_option maxHeartbeats 8000000
namespace A8
open PySem PySem.Spec PyProof.Rows L2 AL
open GxR (TabB TabG Tabbed)
def wo (p : Addr) (H : Hp) : Hp := fun b => if b = p then none else H b
theorem wo_ne {p b : Addr} {H : Hp} (h : b ≠ p) : wo p H b = H b := if_neg h
theorem wo_p {p : Addr} {H : Hp} : wo p H p = none := if_pos rfl
theorem wo_same {p : Addr} {H : Hp} : Same (wo p H) H := fun b o e => by
  by_cases z : b = p
  · rw [z, wo_p] at e
    cases e
  · rw [wo_ne z] at e
    exact e
/-- a tree in a heap -/
structure Bw (Ps : List Addr) (H : Hp) (d : Addr) (t : List Row) : Prop where
  tabs : Tabs Ps H
  d : H d = some (.dK (kvsOf t))
  R : RowsAt H t
theorem Bw.ext {Ps : List Addr} {H H' : Hp} {d : Addr} {t : List Row} (b : Bw Ps H d t) (e : Ext Ps H H') : Bw Ps H' d t :=
  ⟨e.tabs b.tabs, e.get b.tabs b.d fun _ z => HO.noConfusion z, e.rows b.tabs b.R⟩
theorem Bw.wo {Ps : List Addr} {H : Hp} {d p : Addr} {t : List Row} {n : Nat} (b : Bw Ps H d t) (hp : PotAt H p n) : Bw Ps (A8.wo p H) d t where
  tabs := fun q hq => by
    obtain ⟨ps, e1, e2⟩ := b.tabs q hq
    exact ⟨ps, by rw [wo_ne (hp.ne' e1 fun _ _ _ z => HO.noConfusion z)]; exact e1, e2⟩
  d := by rw [wo_ne (hp.ne' b.d fun _ _ _ z => HO.noConfusion z)]; exact b.d
  R := fun r hr => by rw [wo_ne (hp.ne' (b.R r hr) names_ne_pot)]; exact b.R r hr
theorem Ext.kpw {Ps : List Addr} {HB H H' : Hp} {p : Addr} {n : Nat} (e : Ext Ps HB H) (hb : HB p = Option.none) (hp : PotAt H p n) (k : Kp p H H') : Ext Ps HB H' where
  kp := fun b o h n => k b o (fun z => by rw [z, hb] at h; cases h) (e.kp b o h n)
  tb := fun q hq h => by
    obtain ⟨ps, e1, e2⟩ := e.tb q hq h
    exact ⟨ps, k _ _ (hp.ne' e1 fun _ _ _ z => HO.noConfusion z) e1, e2⟩
theorem PotAt.extw {Ps : List Addr} {H H' : Hp} {p : Addr} {n : Nat} (h : PotAt H p n) (e : Ext Ps H H') (t : Tabs Ps H) : PotAt H' p n := by
  obtain ⟨x, y, z, h1, h2⟩ := h
  exact ⟨x, y, z, e.get t h1 fun _ z => HO.noConfusion z, h2⟩
/-! ### names to names -/
theorem mergeK_new : ∀ {l u : List (Key × V)}, ((u ++ l).map (·.1)).Nodup → mergeK u l = u ++ l
  | [], u, _ => (List.append_nil u).symm
  | a :: l, u, nd => by
    have hn : valV u a.1 = none := by
      cases q : valV u a.1 with
      | none => rfl
      | some v =>
        obtain ⟨s, hs, e⟩ := List.mem_map.mp (valV_in q)
        rw [List.map_append, List.nodup_append] at nd
        exact (nd.2.2 s.1 (List.mem_map.mpr ⟨s, hs, rfl⟩) a.1 List.mem_cons_self e).elim
    show mergeK (putK u a.1 a.2) l = _
    rw [putK_new _ hn, mergeK_new (by rw [List.append_assoc]; exact nd), List.append_assoc]
    rfl
theorem zip_ren : ∀ {ys ns : List Str}, ys.Nodup → ns.Nodup → ys.length = ns.length →
    ∃ ρ : Str → Str, (∀ a ∈ ys, valV ((ys.map (Sum.inr : Str → Key)).zip (ns.map V.str)) (Sum.inr a) = some (.str (ρ a))) ∧ (∀ a ∈ ys, ∀ b ∈ ys, ρ a = ρ b → a = b) ∧ ∀ a ∈ ys, ρ a ∈ ns
  | [], [], _, _, _ => ⟨id, fun a ha => absurd ha List.not_mem_nil, fun a ha => absurd ha List.not_mem_nil, fun a ha => absurd ha List.not_mem_nil⟩
  | y :: ys, n :: ns, nd, nn, len => by
    have nd2 := List.nodup_cons.mp nd
    have nn2 := List.nodup_cons.mp nn
    obtain ⟨ρ, h1, h2, h3⟩ := zip_ren nd2.2 nn2.2 (Nat.succ.inj len)
    have no : ∀ {a : Str}, a ∈ ys → a ≠ y := fun {a} h e => nd2.1 (e ▸ h)
    refine ⟨fun a => if a = y then n else ρ a, fun a ha => ?_, fun a ha b hb e => ?_, fun a ha => ?_⟩
    · show _ = some (V.str (if a = y then n else ρ a))
      rcases List.mem_cons.mp ha with rfl | h
      · rw [if_pos rfl]
        exact valV_pos rfl
      · rw [if_neg (no h), ← h1 a h]
        show valV ((Sum.inr y, V.str n) :: (ys.map (Sum.inr : Str → Key)).zip (ns.map V.str)) (Sum.inr a) = _
        unfold valV
        rw [List.find?_cons_of_neg]
        simpa using Ne.symm (no h)
    · dsimp only at e
      rcases List.mem_cons.mp ha with ea | h <;> rcases List.mem_cons.mp hb with eb | k
      · rw [ea, eb]
      · rw [if_pos ea, if_neg (no k)] at e
        exact (nn2.1 (by rw [e]; exact h3 b k)).elim
      · rw [if_neg (no h), if_pos eb] at e
        exact (nn2.1 (by rw [← e]; exact h3 a h)).elim
      · rw [if_neg (no h), if_neg (no k)] at e
        exact h2 a h b k e
    · dsimp only
      rcases List.mem_cons.mp ha with ea | h
      · rw [if_pos ea]
        exact List.mem_cons_self
      · rw [if_neg (no h)]
        exact List.mem_cons_of_mem _ (h3 a h)
theorem zip_keys : ∀ {ys ns : List Str}, ys.length = ns.length → ((ys.map (Sum.inr : Str → Key)).zip (ns.map V.str)).map (·.1) = ys.map Sum.inr
  | [], [], _ => rfl
  | y :: ys, n :: ns, len => by
    show Sum.inr y :: ((ys.map (Sum.inr : Str → Key)).zip (ns.map V.str)).map (·.1) = _
    rw [zip_keys (Nat.succ.inj len)]
    rfl
theorem zip_merge {ys ns : List Str} (nd : ys.Nodup) (len : ys.length = ns.length) : mergeK [] ((ys.map (Sum.inr : Str → Key)).zip (ns.map V.str)) = (ys.map (Sum.inr : Str → Key)).zip (ns.map V.str) := by
  rw [mergeK_new]
  · rfl
  · rw [List.nil_append, zip_keys len]
    exact nd_mapOn nd fun a _ b _ e => Sum.inr.inj e
/-! ### lists and tuples of two -/
abbrev PairLs (H : Hp) (ts : List Addr) (qs : List (Str × Str)) : Prop := Paired (fun a (q : Str × Str) => H a = some (.lst [.str q.1, .str q.2])) ts qs
theorem PairLs.keep {H H' : Hp} {ts : List Addr} {qs : List (Str × Str)} (h : PairLs H ts qs) (k : ∀ b x y, H b = some (.lst [.str x, .str y]) → H' b = some (.lst [.str x, .str y])) : PairLs H' ts qs := by
  unfold PairLs at h ⊢
  induction h with
  | nil => exact .nil
  | cons h _ ih => exact .cons (k _ _ _ h) ih
theorem PairLs.snoc {H : Hp} {ts : List Addr} {qs : List (Str × Str)} {a : Addr} {q : Str × Str} (h : PairLs H ts qs) (e : H a = some (.lst [.str q.1, .str q.2])) : PairLs H (ts ++ [a]) (qs ++ [q]) := by
  unfold PairLs at h ⊢
  induction h with
  | nil => exact .cons e .nil
  | cons h _ ih => exact .cons h ih
theorem paired_len {α β : Type} {F : α → β → Prop} {as : List α} {bs : List β} (h : Paired F as bs) : as.length = bs.length := by
  induction h with
  | nil => rfl
  | cons _ _ ih => rw [List.length_cons, List.length_cons, ih]
theorem paired_at {α β : Type} {F : α → β → Prop} {as : List α} {bs : List β} (h : Paired F as bs) : ∀ {i : Nat} {a : α}, as[i]? = some a → ∃ b, bs[i]? = some b ∧ F a b := by
  induction h with
  | nil => intro i a e; simp at e
  | cons h _ ih =>
    intro i a e
    cases i with
    | zero =>
      rw [List.getElem?_cons_zero] at e
      rw [← Option.some.inj e]
      exact ⟨_, rfl, h⟩
    | succ i =>
      rw [List.getElem?_cons_succ] at e ⊢
      exact ih e
def prOf (H : Hp) (a : Addr) : Str × Str := match H a with
  | some (.tup [.str x, .str y]) => (x, y)
  | _ => (Str.empty, Str.empty)
theorem prOf_at {H : Hp} {a : Addr} {q : Str × Str} (h : H a = some (.tup [.str q.1, .str q.2])) : prOf H a = q := by
  unfold prOf
  rw [h]
theorem pairs_map {H : Hp} {ts : List Addr} {qs : List (Str × Str)} (h : PairsAt H ts qs) : ts.map (prOf H) = qs := by
  unfold PairsAt at h
  induction h with
  | nil => rfl
  | cons h _ ih => rw [List.map_cons, ih, prOf_at h]
theorem pairs_of {H : Hp} {ts : List Addr} {qs : List (Str × Str)} (h : PairsAt H ts qs) : ∀ a ∈ ts, H a = some (.tup [.str (prOf H a).1, .str (prOf H a).2]) := by
  unfold PairsAt at h
  induction h with
  | nil => exact fun a ha => absurd ha List.not_mem_nil
  | cons h _ ih =>
    intro a ha
    rcases List.mem_cons.mp ha with rfl | z
    · rw [prOf_at h]
      exact h
    · exact ih a z
theorem pairs_self {H : Hp} {k : Addr → Str × Str} : ∀ {ts : List Addr}, (∀ a ∈ ts, H a = some (.tup [.str (k a).1, .str (k a).2])) → PairsAt H ts (ts.map k)
  | [], _ => .nil
  | a :: ts, h => .cons (h a List.mem_cons_self) (pairs_self fun b hb => h b (List.mem_cons_of_mem _ hb))
def edD (qs : List (Str × Str)) : PyData := .list (qs.map fun q => .tuple [.str q.1, .str q.2])
theorem dp_pairs {K : PySem.W.Frag} {H : Hp} {ts : List Addr} {qs : List (Str × Str)} (h : PairsAt H ts qs) : DpAll K H (ts.map V.ref) (qs.map fun q => PyData.tuple [.str q.1, .str q.2]) := by
  unfold PairsAt at h
  induction h with
  | nil => exact .nil
  | cons h _ ih => exact .cons (.tup (.inl (.inl h)) (.cons (.str _) (.cons (.str _) .nil))) ih
theorem lay_pairs {qs : List (Str × Str)} (h : ∀ q ∈ qs, Ascii q.1 ∧ Ascii q.2) : PyData.canLay0 (edD qs) = true := by
  show PyData.canLayAll0 (qs.map fun q => PyData.tuple [.str q.1, .str q.2]) = true
  induction qs with
  | nil => rfl
  | cons q qs ih =>
    show (PyData.canLay0 (.tuple [.str q.1, .str q.2]) && PyData.canLayAll0 (qs.map fun q => PyData.tuple [.str q.1, .str q.2])) = true
    have e : PyData.canLayAll0 ([q.1, q.2].map PyData.str) = true := canLay_strs fun x hx => by
      rcases List.mem_cons.mp hx with rfl | hx
      · exact (h q List.mem_cons_self).1
      · rw [List.mem_singleton.mp hx]
        exact (h q List.mem_cons_self).2
    rw [show PyData.canLay0 (.tuple [.str q.1, .str q.2]) = true from e, ih fun q hq => h q (List.mem_cons_of_mem _ hq)]
    rfl
theorem shaped_pairs {qs : List (Str × Str)} (h : ∀ q ∈ qs, Ascii q.1 ∧ Ascii q.2) : SeqAt.shaped (edD qs) = true := by
  have e2 : PyData.depthAll (qs.map fun q => PyData.tuple [.str q.1, .str q.2]) ≤ 1 := by
    clear h
    induction qs with
    | nil => exact Nat.zero_le _
    | cons q qs ih =>
      show max (PyData.depth (.tuple [.str q.1, .str q.2])) (PyData.depthAll (qs.map fun q => PyData.tuple [.str q.1, .str q.2])) ≤ 1
      refine Nat.max_le.mpr ⟨?_, ih⟩
      show PyData.depthAll ([q.1, q.2].map PyData.str) + 1 ≤ 1
      rw [depth_strs]
      exact Nat.le_refl _
  show (PyData.canLay0 (edD qs) && decide (PyData.depth (edD qs) ≤ 64)) = true
  have e4 : PyData.depth (edD qs) = PyData.depthAll (qs.map fun q => PyData.tuple [.str q.1, .str q.2]) + 1 := rfl
  rw [lay_pairs h, e4, decide_eq_true (by omega)]
  rfl
theorem edgeL_asc2 {t : List Row} (ok : OkTree t) {ys : List Str} (hy : ∀ y, y ∈ ys ↔ y ∈ t.map (·.1)) : ∀ q ∈ edgeL t ys, Ascii q.1 ∧ Ascii q.2 := fun q hq => by
  obtain ⟨n, _⟩ := (mem_edgeL ok hy).mp (show (q.1, q.2) ∈ edgeL t ys from hq)
  obtain ⟨r, hr, er⟩ := n.left
  obtain ⟨s, hs, es⟩ := n.right ok
  exact ⟨er ▸ (ok.names r hr).asc, es ▸ (ok.names s hs).asc⟩
/-- all on a walk are nodes -/
theorem Wk.inn {t : List Row} {v : Row} {p : List Str} (W : Wk t v.1 p) (hv : v ∈ t) (ok : OkTree t) {y : Str} (hy : y ∈ p) : ∃ r ∈ t, r.1 = y := by
  obtain ⟨ps, S⟩ := exists_steps ok hv
  obtain ⟨i, li, ei⟩ := List.mem_iff_getElem.mp hy
  obtain ⟨k, z, _, ek⟩ := W.idx S ok i y (by rw [List.getElem?_eq_getElem li, ei])
  exact S.nodes y (List.mem_map.mpr ⟨_, List.mem_of_getElem? ek, rfl⟩)
end A8
set_option Elab.async false
set_option linter.all false
set_option maxRecDepth 100000
set_option maxHeartbeats 4000000
namespace A8
open PySem PySem.Spec PyProof.Rows L2 AL
/-! ### walks: parts, backwards, each node once -/
section
variable {t : List Row} {v x : Str} {p : List Str}
theorem Wk.take (W : Wk t v p) {n : Nat} (h : 0 < n) : Wk t v (p.take n) where
  h0 := by rw [List.getElem?_take, if_pos h]; exact W.h0
  nb := fun i a b h1 h2 => by
    rw [List.getElem?_take] at h1 h2
    split at h1 <;> split at h2 <;> first | exact W.nb i a b h1 h2 | cases h1 | cases h2
  nr := fun i a b h1 h2 => by
    rw [List.getElem?_take] at h1 h2
    split at h1 <;> split at h2 <;> first | exact W.nr i a b h1 h2 | cases h1 | cases h2
theorem Wk.drop (W : Wk t v p) {n : Nat} {a : Str} (h : p[n]? = some a) : Wk t a (p.drop n) where
  h0 := by rw [List.getElem?_drop]; exact h
  nb := fun i a b h1 h2 => by
    rw [List.getElem?_drop] at h1 h2
    exact W.nb (n + i) a b h1 h2
  nr := fun i a b h1 h2 => by
    rw [List.getElem?_drop] at h1 h2
    exact W.nr (n + i) a b h1 h2
theorem OkTree.nbS (ok : OkTree t) {a b : Str} (h : Nb t a b) : Nb t b a := by
  obtain ⟨r, hr, er, hm⟩ := h
  obtain ⟨s, hs, es⟩ := ok.nbs r hr b hm
  exact ⟨s, hs, es, er ▸ ok.sym r hr s hs (by rw [es]; exact hm)⟩
theorem OkTree.nbNe (ok : OkTree t) {a b : Str} (h : Nb t a b) : a ≠ b := fun e => by
  obtain ⟨r, hr, er, hm⟩ := h
  exact ok.self r hr (by rw [er, e]; exact hm)
theorem Wk.rev (W : Wk t v p) (ok : OkTree t) (hl : p.getLast? = some x) : Wk t x p.reverse where
  h0 := by rw [← List.head?_eq_getElem?, List.head?_reverse]; exact hl
  nb := fun i a b h1 h2 => by
    have l2 := at_lt h2
    rw [List.length_reverse] at l2
    rw [List.getElem?_reverse (by omega)] at h1 h2
    refine ok.nbS (W.nb (p.length - 1 - (i + 1)) b a h2 ?_)
    rw [← h1]
    congr 1
    omega
  nr := fun i a b h1 h2 => by
    have l2 := at_lt h2
    rw [List.length_reverse] at l2
    rw [List.getElem?_reverse (by omega)] at h1 h2
    refine (W.nr (p.length - 1 - (i + 2)) b a h2 ?_).symm
    rw [← h1]
    congr 1
    omega
theorem rev_last (W : Wk t v p) : p.reverse.getLast? = some v := by
  rw [List.getLast?_reverse, List.head?_eq_getElem?]
  exact W.h0
/-- one walk from a node to a node -/
theorem Wk.same {v : Row} {q : List Str} (hv : v ∈ t) (ok : OkTree t) (W : Wk t v.1 p) (W2 : Wk t v.1 q) (h : p.getLast? = q.getLast?) : p = q := by
  obtain ⟨ps, S⟩ := exists_steps ok hv
  exact Wk.unique S ok _ _ _ (Nat.le_refl _) W W2 h
theorem take_last {l : List Str} {n : Nat} {a : Str} (h : l[n]? = some a) : (l.take (n + 1)).getLast? = some a := by
  rw [List.take_succ, h]
  exact List.getLast?_concat ..
theorem drop_last {l : List Str} {n : Nat} (h : n < l.length) : (l.drop n).getLast? = l.getLast? := by
  rw [List.getLast?_drop, if_neg (by omega)]
theorem Wk.nodup {v : Row} (W : Wk t v.1 p) (hv : v ∈ t) (ok : OkTree t) : p.Nodup := by
  rw [List.Nodup, List.pairwise_iff_getElem]
  intro i j hi hj ij e
  have ei : p[i]? = some p[i] := List.getElem?_eq_getElem hi
  have ej : p[j]? = some p[j] := List.getElem?_eq_getElem hj
  obtain ⟨r, hr, er⟩ := W.inn hv ok (List.getElem_mem hi)
  have W1 : Wk t r.1 ((p.drop i).take (j - i + 1)) := (er ▸ W.drop ei).take (Nat.succ_pos _)
  have eq := Wk.same hr ok W1 Wk.one (by
    rw [take_last (a := p[j]) (by rw [List.getElem?_drop, ← ej]; congr 1; omega), er, e]
    rfl)
  have := congrArg List.length eq
  rw [List.length_take, List.length_drop, List.length_singleton] at this
  omega
/-- the next node on a walk is the direction -/
theorem Wk.next {ps : List (Str × Str)} (W : Wk t v p) (ok : OkTree t) (hv : ∃ r ∈ t, r.1 = v) (hl : p.getLast? = some x) (S : StepsOk t x ps) {z : Str} (hm : (v, z) ∈ ps) : (p ++ p)[1]? = some z := by
  obtain ⟨i, li, ei⟩ := List.mem_iff_getElem.mp hm
  obtain ⟨p3, c3, p30, p3l⟩ := exists_path S ok _ i v z (Nat.lt_succ_self i) (by rw [List.getElem?_eq_getElem li, ei])
  obtain ⟨r, hr, er⟩ := hv
  subst er
  have e3 : p3 = p := Wk.same hr ok (c3.wk S ok p30) W (by rw [p3l, hl])
  have snd := c3.second S p30 p3l hm
  rw [e3] at snd
  exact snd
/-- put together, with no return where they meet -/
theorem Wk.cat {q : List Str} {w : Str} (W : Wk t v (p ++ [w])) (W2 : Wk t w (w :: q)) (nr : ∀ a b, p.getLast? = some a → q.head? = some b → a ≠ b) : Wk t v (p ++ w :: q) := by
  have A : ∀ {i : Nat}, i < p.length → (p ++ w :: q)[i]? = (p ++ [w])[i]? := fun {i} h => by rw [List.getElem?_append_left h, List.getElem?_append_left h]
  have B : ∀ {i : Nat}, p.length ≤ i → (p ++ w :: q)[i]? = (w :: q)[i - p.length]? := fun {i} h => List.getElem?_append_right h
  have M : (p ++ [w])[p.length]? = some w := by rw [List.getElem?_append_right (Nat.le_refl _), Nat.sub_self]; rfl
  refine ⟨?_, fun i a b h1 h2 => ?_, fun i a b h1 h2 => ?_⟩
  · by_cases h : 0 < p.length
    · rw [A h]
      exact W.h0
    · have : p = [] := List.eq_nil_of_length_eq_zero (by omega)
      subst this
      exact W.h0
  · by_cases c : i + 1 < p.length
    · rw [A (by omega)] at h1
      rw [A c] at h2
      exact W.nb i a b h1 h2
    · by_cases c2 : i < p.length
      · have e : i + 1 = p.length := by omega
        rw [A c2] at h1
        rw [e, B (Nat.le_refl _), Nat.sub_self] at h2
        refine W.nb i a b h1 ?_
        rw [e, M]
        exact h2
      · rw [B (by omega)] at h1 h2
        rw [show i + 1 - p.length = (i - p.length) + 1 by omega] at h2
        exact W2.nb (i - p.length) a b h1 h2
  · by_cases c : i + 2 < p.length
    · rw [A (by omega)] at h1
      rw [A c] at h2
      exact W.nr i a b h1 h2
    · by_cases c1 : i + 1 < p.length
      · have e : i + 2 = p.length := by omega
        rw [A (by omega)] at h1
        rw [e, B (Nat.le_refl _), Nat.sub_self] at h2
        refine W.nr i a b h1 ?_
        rw [e, M]
        exact h2
      · by_cases c2 : i < p.length
        · have e : i + 1 = p.length := by omega
          rw [A c2, List.getElem?_append_left c2] at h1
          rw [B (by omega), show i + 2 - p.length = 1 by omega, List.getElem?_cons_succ] at h2
          refine nr a b ?_ ?_
          · rw [List.getLast?_eq_getElem?, ← h1]
            congr 1
            omega
          · rw [List.head?_eq_getElem?]
            exact h2
        · rw [B (by omega)] at h1 h2
          rw [show i + 2 - p.length = (i - p.length) + 2 by omega] at h2
          exact W2.nr (i - p.length) a b h1 h2
end
end A8
set_option Elab.async false
set_option linter.all false
set_option maxRecDepth 100000
set_option maxHeartbeats 4000000
namespace A8
open PySem PySem.Spec PyProof.Rows L2 AL
theorem last_app {l k : List Str} {a : Str} : (l ++ a :: k).getLast? = (a :: k).getLast? := by
  rw [List.getLast?_append, List.getLast?_eq_some_getLast (List.cons_ne_nil a k)]
  rfl
theorem common : ∀ (l k : List Str) (w : Str), ∃ (s : List Str) (w' : Str) (p q : List Str), w :: l = s ++ w' :: p ∧ w :: k = s ++ w' :: q ∧ ∀ a b, p.head? = some a → q.head? = some b → a ≠ b
  | [], k, w => ⟨[], w, [], k, rfl, rfl, fun a b h => by cases h⟩
  | a :: l, [], w => ⟨[], w, a :: l, [], rfl, rfl, fun a b _ h => by cases h⟩
  | a :: l, b :: k, w => by
    by_cases e : a = b
    · subst e
      obtain ⟨s, w', p, q, e1, e2, h⟩ := common l k a
      exact ⟨w :: s, w', p, q, by rw [e1]; rfl, by rw [e2]; rfl, h⟩
    · refine ⟨[], w, a :: l, b :: k, rfl, rfl, fun c d h1 h2 => ?_⟩
      rw [← Option.some.inj h1, ← Option.some.inj h2]
      exact e
section
variable {t : List Row} {P A B : List Str}
theorem median {one other third : Row} (ok : OkTree t) (ho : one ∈ t) (hx : other ∈ t) (h3 : third ∈ t) (W1 : Wk t one.1 P) (l1 : P.getLast? = some other.1) (W2 : Wk t other.1 B) (l2 : B.getLast? = some third.1)
    (W3 : Wk t one.1 A) (l3 : A.getLast? = some third.1) : (P.filter fun y => decide (y ∈ B) && decide (y ∈ A)).length = 1 := by
  have WA := W3.rev ok l3
  have WB := W2.rev ok l2
  have hA : ∃ l, A.reverse = third.1 :: l := by
    have := WA.h0
    cases q : A.reverse with
    | nil => rw [q] at this; cases this
    | cons a l => rw [q] at this; exact ⟨l, by rw [Option.some.inj (show some a = some third.1 from this)]⟩
  have hB : ∃ l, B.reverse = third.1 :: l := by
    have := WB.h0
    cases q : B.reverse with
    | nil => rw [q] at this; cases this
    | cons a l => rw [q] at this; exact ⟨l, by rw [Option.some.inj (show some a = some third.1 from this)]⟩
  obtain ⟨l, eA⟩ := hA
  obtain ⟨k, eB⟩ := hB
  obtain ⟨s, w, p, q, e1, e2, ne⟩ := common l k third.1
  rw [e1] at eA
  rw [e2] at eB
  have ndA : (s ++ w :: p).Nodup := by rw [← eA]; exact WA.nodup h3 ok
  have ndB : (s ++ w :: q).Nodup := by rw [← eB]; exact WB.nodup h3 ok
  have A' : A = (p.reverse ++ [w]) ++ s.reverse := by
    rw [← List.reverse_reverse A, eA]
    simp
  have WP : Wk t one.1 (p.reverse ++ [w]) := by
    have := W3.take (n := (p.reverse ++ [w]).length) (by simp)
    rw [A', List.take_left] at this
    exact this
  have WQ : Wk t w (w :: q) := by
    rw [eB] at WB
    have := WB.drop (n := s.length) (a := w) (by rw [List.getElem?_append_right (Nat.le_refl _), Nat.sub_self]; rfl)
    rw [List.drop_left] at this
    exact this
  have WM := WP.cat WQ fun a b h1 h2 => ne a b (by rw [← List.getLast?_reverse]; exact h1) h2
  have lM : (p.reverse ++ w :: q).getLast? = some other.1 := by
    have e : (s ++ w :: q).getLast? = some other.1 := by rw [← eB]; exact rev_last W2
    rw [last_app] at e ⊢
    exact e
  have eP : P = p.reverse ++ w :: q := Wk.same ho ok W1 WM (by rw [l1, lM])
  have ndM : (p.reverse ++ w :: q).Nodup := WM.nodup ho ok
  have mA : ∀ y, y ∈ A ↔ y ∈ s ∨ y = w ∨ y ∈ p := fun y => by
    rw [← List.mem_reverse, eA, List.mem_append, List.mem_cons]
  have mB : ∀ y, y ∈ B ↔ y ∈ s ∨ y = w ∨ y ∈ q := fun y => by
    rw [← List.mem_reverse, eB, List.mem_append, List.mem_cons]
  rw [List.nodup_append] at ndA ndB ndM
  have nA2 := List.nodup_cons.mp ndA.2.1
  have nB2 := List.nodup_cons.mp ndB.2.1
  have f1 : (p.reverse.filter fun y => decide (y ∈ B) && decide (y ∈ A)) = [] := by
    rw [List.filter_eq_nil_iff]
    intro y hy h
    rw [Bool.and_eq_true] at h
    have hp : y ∈ p := List.mem_reverse.mp hy
    rcases (mB y).mp (of_decide_eq_true h.1) with z | z | z
    · exact ndA.2.2 y z y (List.mem_cons_of_mem _ hp) rfl
    · exact nA2.1 (z ▸ hp)
    · exact ndM.2.2 y hy y (List.mem_cons_of_mem _ z) rfl
  have f2 : (q.filter fun y => decide (y ∈ B) && decide (y ∈ A)) = [] := by
    rw [List.filter_eq_nil_iff]
    intro y hy h
    rw [Bool.and_eq_true] at h
    rcases (mA y).mp (of_decide_eq_true h.2) with z | z | z
    · exact ndB.2.2 y z y (List.mem_cons_of_mem _ hy) rfl
    · exact nB2.1 (z ▸ hy)
    · exact ndM.2.2 y (List.mem_reverse.mpr z) y (List.mem_cons_of_mem _ hy) rfl
  rw [eP, List.filter_append, f1, List.filter_cons_of_pos (by
    rw [Bool.and_eq_true]
    exact ⟨decide_eq_true ((mB w).mpr (.inr (.inl rfl))), decide_eq_true ((mA w).mpr (.inr (.inl rfl)))⟩), f2]
  rfl
/-- beside an edge -/
theorem side {n : Row} {x y : Str} {px py : List Str} (ok : OkTree t) (hn : n ∈ t) (nb : Nb t x y) (Wx : Wk t n.1 px) (lx : px.getLast? = some x) (Wy : Wk t n.1 py) (ly : py.getLast? = some y) : py = px ++ [y] ∨ px = py ++ [x] := by
  obtain ⟨p, u, e⟩ := snoc_of Wx.ne
  rw [e, last_snoc] at lx
  obtain rfl := Option.some.inj lx
  by_cases c : p.getLast? = some y
  · right
    have ne : p ≠ [] := fun z => by rw [z] at c; cases c
    have Wp : Wk t n.1 p := by
      rw [e] at Wx
      exact Wx.pre ne
    rw [e, Wk.same hn ok Wy Wp (by rw [ly, c])]
  · left
    rw [e] at Wx ⊢
    exact Wk.same hn ok Wy (Wx.snoc nb fun b hb z => c (by rw [hb, z])) (by rw [ly, last_snoc])
/-- two neighbours on a walk: how far they are from its ends -/
theorem cross1 {n m : Row} {x y : Str} {i : Nat} {px py qx qy : List Str} (ok : OkTree t) (hn : n ∈ t) (hm : m ∈ t) (W : Wk t n.1 P) (l : P.getLast? = some m.1) (h1 : P[i]? = some x) (h2 : P[i + 1]? = some y)
    (Wx : Wk t n.1 px) (lx : px.getLast? = some x) (Wy : Wk t n.1 py) (ly : py.getLast? = some y) (Vx : Wk t m.1 qx) (mx : qx.getLast? = some x) (Vy : Wk t m.1 qy) (my : qy.getLast? = some y) : px.length < py.length ∧ qy.length < qx.length := by
  have l2 := at_lt h2
  have a1 := Wk.same hn ok Wx (W.take (n := i + 1) (Nat.succ_pos _)) (by rw [lx, take_last h1])
  have a2 := Wk.same hn ok Wy (W.take (n := i + 2) (Nat.succ_pos _)) (by rw [ly, take_last h2])
  have R := W.rev ok l
  have r1 : P.reverse[P.length - 1 - i]? = some x := by
    rw [List.getElem?_reverse (by omega), ← h1]
    congr 1
    omega
  have r2 : P.reverse[P.length - 1 - (i + 1)]? = some y := by
    rw [List.getElem?_reverse (by omega), ← h2]
    congr 1
    omega
  have a3 := Wk.same hm ok Vx (R.take (n := P.length - 1 - i + 1) (Nat.succ_pos _)) (by rw [mx, take_last r1])
  have a4 := Wk.same hm ok Vy (R.take (n := P.length - 1 - (i + 1) + 1) (Nat.succ_pos _)) (by rw [my, take_last r2])
  rw [a1, a2, a3, a4]
  simp only [List.length_take, List.length_reverse]
  omega
theorem cross2 {n m : Row} {x y : Str} {px py qx qy : List Str} (ok : OkTree t) (hn : n ∈ t) (hm : m ∈ t) (W : Wk t n.1 P) (l : P.getLast? = some m.1) (nb : Nb t x y)
    (Wx : Wk t n.1 px) (lx : px.getLast? = some x) (Wy : Wk t n.1 py) (ly : py.getLast? = some y) (Vx : Wk t m.1 qx) (mx : qx.getLast? = some x) (Vy : Wk t m.1 qy) (my : qy.getLast? = some y) (h1 : px.length < py.length) (h2 : qy.length < qx.length) :
    ∃ i, P[i]? = some x ∧ P[i + 1]? = some y := by
  have ep : py = px ++ [y] := by
    rcases side ok hn nb Wx lx Wy ly with z | z
    · exact z
    · rw [z, List.length_append] at h1
      omega
  have eq : qx = qy ++ [x] := by
    rcases side ok hm nb Vx mx Vy my with z | z
    · rw [z, List.length_append] at h2
      omega
    · exact z
  obtain ⟨p, u, e⟩ := snoc_of Wx.ne
  rw [e, last_snoc] at lx
  obtain rfl := Option.some.inj lx
  have Vr := Vx.rev ok mx
  rw [eq, List.reverse_append] at Vr
  have Vr : Wk t u (u :: qy.reverse) := Vr
  have hy : qy.reverse.head? = some y := by rw [List.head?_reverse]; exact my
  rw [e] at Wx
  have M := Wx.cat Vr fun a b ha hb ab => by
    rw [hy] at hb
    obtain rfl := Option.some.inj hb
    rw [ep, e] at Wy
    obtain ⟨p', c, ec⟩ := snoc_of (l := p) (fun z => by rw [z] at ha; cases ha)
    rw [ec, last_snoc] at ha
    obtain rfl := Option.some.inj ha
    rw [ec] at Wy
    refine Wy.nr p'.length c y ?_ ?_ ab
    · rw [List.append_assoc, List.append_assoc, List.getElem?_append_right (Nat.le_refl _), Nat.sub_self]
      rfl
    · rw [List.append_assoc, List.append_assoc, List.getElem?_append_right (by omega), show p'.length + 2 - p'.length = 2 by omega]
      rfl
  have lM : (p ++ u :: qy.reverse).getLast? = some m.1 := by
    rw [last_app]
    have ne : qy.reverse ≠ [] := fun z => by rw [z] at hy; cases hy
    rw [List.getLast?_cons_of_ne_nil ne]
    exact rev_last Vy
  have eM := Wk.same hn ok W M (by rw [l, lM])
  refine ⟨p.length, ?_, ?_⟩
  · rw [eM, List.getElem?_append_right (Nat.le_refl _), Nat.sub_self]
    rfl
  · rw [eM, List.getElem?_append_right (by omega), show p.length + 1 - p.length = 1 by omega, List.getElem?_cons_succ, ← List.head?_eq_getElem?]
    exact hy
/-- the directions from a node -/
theorem dirs {v : Row} (ok : OkTree t) (hv : v ∈ t) : ∃ g : Str → Str, (∀ r ∈ t, ∀ ps z, StepsOk t r.1 ps → (v.1, z) ∈ ps → z = g r.1) ∧ g v.1 = v.1 ∧ (∀ r ∈ t, r.1 ≠ v.1 → g r.1 ∈ v.2.2) ∧ ∀ y ∈ v.2.2, g y = y := by
  have walk : ∀ r ∈ t, ∃ p, Wk t v.1 p ∧ p.getLast? = some r.1 := fun r hr => by
    obtain ⟨ps, S⟩ := exists_steps ok hr
    obtain ⟨q, hq, e⟩ := List.mem_map.mp (S.all v hv)
    obtain ⟨i, li, ei⟩ := List.mem_iff_getElem.mp hq
    obtain ⟨p, c, p0, pl⟩ := exists_path S ok _ i v.1 q.2 (Nat.lt_succ_self i) (by rw [List.getElem?_eq_getElem li, ei, ← e])
    exact ⟨p, c.wk S ok p0, pl⟩
  have ex : ∀ a : Str, ∃ z : Str, ∀ p, Wk t v.1 p → p.getLast? = some a → (p ++ p)[1]? = some z := fun a => by
    by_cases h : ∃ p, Wk t v.1 p ∧ p.getLast? = some a
    · obtain ⟨p, W, l⟩ := h
      have hl : 1 < (p ++ p).length := by
        have := List.length_pos_iff.mpr W.ne
        rw [List.length_append]
        omega
      refine ⟨(p ++ p)[1], fun q W2 l2 => ?_⟩
      rw [Wk.same hv ok W2 W (by rw [l, l2])]
      exact List.getElem?_eq_getElem hl
    · exact ⟨a, fun p W l => (h ⟨p, W, l⟩).elim⟩
  refine ⟨fun a => Classical.choose (ex a), fun r hr ps z S hm => ?_, ?_, fun r hr ne => ?_, fun y hy => ?_⟩
  · obtain ⟨p, W, l⟩ := walk r hr
    have h := Classical.choose_spec (ex r.1) p W l
    have h2 := W.next ok ⟨v, hv, rfl⟩ l S hm
    rw [h2] at h
    exact Option.some.inj h
  · have h := Classical.choose_spec (ex v.1) [v.1] Wk.one rfl
    exact (Option.some.inj h).symm
  · obtain ⟨p, W, l⟩ := walk r hr
    have h := Classical.choose_spec (ex r.1) p W l
    have l2 : 1 < p.length := by
      have := List.length_pos_iff.mpr W.ne
      rcases Nat.lt_or_ge 1 p.length with z | z
      · exact z
      · have z1 : p.length = 1 := by omega
        match p, z1 with
        | [a], _ =>
          have h0 : a = v.1 := Option.some.inj W.h0
          have h9 : a = r.1 := Option.some.inj l
          exact (ne (h9.symm.trans h0)).elim
    rw [List.getElem?_append_left l2] at h
    obtain ⟨s, hs, es, hm⟩ := W.nb 0 _ _ W.h0 h
    rw [ok.one hs hv es] at hm
    exact hm
  · have W : Wk t v.1 [v.1, y] := Wk.snoc (p := []) (u := v.1) Wk.one ⟨v, hv, rfl, hy⟩ fun b hb => by cases hb
    have h := Classical.choose_spec (ex y) [v.1, y] W rfl
    exact (Option.some.inj h).symm
end
end A8
set_option Elab.async false
set_option linter.all false
set_option maxRecDepth 100000
set_option maxHeartbeats 8000000
namespace A8
open PySem PySem.Spec PyProof.Rows L2 AL
open GxR (TabB TabG Tabbed)
theorem cut_take (p : List Str) (n : Nat) : cutV (p.map V.str) none (some (n : Int)) = (p.take n).map V.str := by
  unfold cutV
  rw [HT.sIx_nat, HT.sIx_none, List.drop_zero, Nat.sub_zero, List.map_take]
  rcases Nat.le_total n (p.map V.str).length with h | h
  · rw [Nat.min_eq_left h]
  · rw [Nat.min_eq_right h, List.take_length, List.take_of_length_le h]
theorem cut_drop (p : List Str) (n : Nat) : cutV (p.map V.str) (some (n : Int)) none = (p.drop n).map V.str := by
  unfold cutV
  rw [HT.sIx_nat, HT.sIx_none, List.map_drop]
  rcases Nat.le_total n (p.map V.str).length with h | h
  · rw [Nat.min_eq_left h, List.take_of_length_le (by rw [List.length_drop]; exact Nat.le_refl _)]
  · rw [Nat.min_eq_right h, List.drop_length, List.take_nil, List.drop_eq_nil_of_le h]
abbrev sPathR : Stmt := top 24
abbrev nPathR : List Str := ["tree", "one", "other", "path", "at", "here", "there", "half"]
theorem scPathR : FnScope nPathR ["tree", "one", "other"] (defScope sPathR) := ⟨rfl, rfl, rfl, by decide +kernel, rfl, by decide +kernel, by decide +kernel⟩
def spPathR (Ps : List Addr) : Sp := fun vs H Q _ => ∃ (d : Addr) (t : List Row) (v x : Row), vs = [.ref d, .str v.1, .str x.1] ∧ H d = some (.dK (kvsOf t)) ∧ RowsAt H t ∧ OkTree t ∧ v ∈ t ∧ x ∈ t ∧ Tabs Ps H ∧ ∀ H', Ext Ps H H' → Q (.bl true) H'
section
variable {P : Program} {w : World} {K : PySem.W.Frag} {mg : Str → Option Value} {base : Heap} {f c p1 : Addr} {fd : FuncData} {Ps : List Addr}
theorem ok_pathR (F : FunD K "_law_path_right" "_law_path_right" (defArgs sPathR) (defBody sPathR) (defScope sPathR) [] [] f fd) (cB : Cal P w K mg base 7 "path_between" (spPath Ps)) (cD : Cal P w K mg base 7 "direction" (spDirn Ps))
    (gL : mg "len" = none) (gR : mg "range" = none) (gT : mg "set" = none) : FnOk P w K mg base CX0 8 f fd ["tree", "one", "other"] (spPathR Ps) := by
  refine F.ok scPathR (fun vs H Q E h => ?_) ?_
  · obtain ⟨d, t, v, x, rfl, _⟩ := h
    rfl
  intro cdv A outer s H vs Q E hr h
  refine ⟨_, PSs.nox (pss_cons (ps_set (i := 3) scPathR.nd rfl (Or.inl rfl) (pe_c cB hr (by decide) rfl (pa_cons (pv 0) (pa_cons (pv 1) (pa_cons (pv 2) pa_nil)))))
    (pss_cons (ps_if (PW.pt (pw_or (pt_cmpR (op_neD hr.units) (pe_c cB hr (by decide) rfl (pa_cons (pv 0) (pa_cons (pv 2) (pa_cons (pv 1) pa_nil)))) (pe_revL (pv 3)) (nomark _))
      (pw_or1 (pt_cmpR op_ne (AL.pe_lenSet rfl rfl gL rfl gT (pv 3)) (pe_callB call_len_seq rfl gL boot_len (pa_cons (pv 3) pa_nil)) rfl)))) pss_never pss_nil)
    (pss_cons (ps_for PassesOwn.never rfl (pi_range1 rfl gR (pa_cons (pe_op op_sub (pe_callB call_len_seq rfl gL boot_len (pa_cons (pv 3) pa_nil)) pe_int) pa_nil)) (pg_name (i := 4) scPathR.nd rfl (Or.inl rfl))
      (pss_cons (ps_par (i := 5) (j := 6) rfl scPathR.nd rfl rfl (by decide) rfl rfl (pa_cons (pe_ix ix_list (pv 3) (pv 4) (fun _ _ => rfl)) (pa_cons (pe_ix ix_list (pv 3) (pe_op op_add (pv 4) pe_int) (fun _ _ => rfl)) pa_nil)) (by rfl))
      (pss_one (ps_if (PW.pt (pw_or (pt_cmpR op_notIn_seq (pv 6) (pe_dget (hu_of hr) (pv 0) (pv 5) (fun _ _ => rfl)) rfl) (pw_or1 (pt_cmpR op_ne (pe_c cD hr (by decide) rfl (pa_cons (pv 0) (pa_cons (pv 5) (pa_cons (pv 2) pa_nil)))) (pv 6) rfl)))) pss_never pss_nil))))
    (pss_cons (ps_set (i := 7) scPathR.nd rfl (Or.inl rfl) (pe_op op_fdiv (pe_callB call_len_seq rfl gL boot_len (pa_cons (pv 3) pa_nil)) pe_int))
    (pss_cons (ps_if (pt_cmpR (op_neD hr.units) (pe_c cB hr (by decide) rfl (pa_cons (pv 0) (pa_cons (pv 1) (pa_cons (pe_ix ix_list (pv 3) (pv 7) (fun _ _ => rfl)) pa_nil)))) (pe_slice sl_list (pv 3) po_none (po_some (pe_op op_add (pv 7) pe_int))) (nomark _)) pss_never pss_nil)
    (pss_one (ps_ret (pe_cmpR (op_eqD hr.units) (pe_c cB hr (by decide) rfl (pa_cons (pv 0) (pa_cons (pe_ix ix_list (pv 3) (pv 7) (fun _ _ => rfl)) (pa_cons (pv 2) pa_nil)))) (pe_slice sl_list (pv 3) (po_some (pv 7)) po_none) (nomark _))))))))), ?_⟩
  obtain ⟨d, t, v, x, rfl, hd, hR, ok, hv, hx, ht, hQ⟩ := h
  have n40 := ok.n40
  have b0 : Bw Ps H d t := ⟨ht, hd, hR⟩
  refine ⟨_, rfl, _, rfl, _, rfl, d, t, v, x, rfl, hd, hR, ok, hv, hx, ht, fun H1 A p e1 hA0 hA W L l40 => ?_⟩
  have b1 := b0.ext e1
  have pl : 0 < p.length := List.length_pos_iff.mpr W.ne
  have asc : ∀ y ∈ p, Ascii y := fun y hy => by
    obtain ⟨r, hr, e⟩ := W.inn hv ok hy
    exact e ▸ (ok.names r hr).asc
  have neD : ∀ {q : List Str}, (∀ y ∈ q, y ∈ p) → SeqAt.shaped (.list (q.map .str)) = true := fun {q} h => shaped_strs fun y hy => asc y (h y hy)
  have eq1 : ∀ q : List Str, V.bl (!PyData.eqvAll (q.map PyData.str) (q.map PyData.str)) = V.bl false := fun q => by
    rw [eqvAll_strs]
    rfl
  -- backwards
  refine ⟨_, rfl, _, rfl, _, rfl, d, t, x, v, rfl, b1.d, b1.R, ok, hx, hv, b1.tabs, fun H2 A2 p2 e2 hA20 hA2 W2 L2' l42 => ?_⟩
  have b2 := b1.ext e2
  have hA2' := e2.get b1.tabs hA fun _ z => HO.noConfusion z
  obtain rfl : p2 = p.reverse := Wk.same hx ok W2 (W.rev ok L) (by rw [L2', rev_last W])
  refine ⟨_, rfl, A, _, rfl, .inl (.inl hA2'), fun B hB => ?_⟩
  have e3 : Ext Ps H2 (upd H2 B (.lst (p.map V.str).reverse)) := .new hB
  have hB3 : upd H2 B (.lst (p.map V.str).reverse) B = some (.lst (p.reverse.map V.str)) := by rw [upd_same, List.map_reverse]
  generalize upd H2 B (.lst (p.map V.str).reverse) = H3 at e3 hB3
  have b3 := b2.ext e3
  have hA3 := e3.get b2.tabs hA2' fun _ z => HO.noConfusion z
  have sr := neD (q := p.reverse) fun y hy => List.mem_reverse.mp hy
  refine ⟨_, _, .lst (.inl (.inl (e3.get b2.tabs hA2 fun _ z => HO.noConfusion z))) (dpAll_strs _), .lst (.inl (.inl hB3)) (dpAll_strs _), sr, sr, false, eq1 _, iteF ?_⟩
  refine ⟨_, rfl, A, p, rfl, .inl (.inl hA3), by omega, W.nodup hv ok, _, rfl, A, _, rfl, .inl (.inl (.inl hA3)), rfl, _, rfl, iteNS (by rw [List.length_map]) ?_⟩
  -- each step
  refine ⟨_, rfl, A, _, rfl, .inl (.inl (.inl hA3)), _, _, rfl, rfl, (p.length : Int) - 1, by rw [List.length_map], by omega, by omega, ?_⟩
  rw [show ((p.length : Int) - 1).toNat = p.length - 1 by omega]
  refine for_range (lo := 0) (n := p.length - 1) (fun i σ' H' => ∃ v4 v5 v6, σ' = [some (.ref d), some (.str v.1), some (.str x.1), some (.ref A), v4, v5, v6, none] ∧ Ext Ps H3 H') ⟨_, _, _, rfl, .refl⟩ ?_ ?_
  · rintro i σ' G hi ⟨v4, v5, v6, rfl, E0⟩
    have bG := b3.ext E0
    have hAG := E0.get b3.tabs hA3 fun _ z => HO.noConfusion z
    have q1 : p[i]? = some p[i] := List.getElem?_eq_getElem (by omega)
    have q2 : p[i + 1]? = some p[i + 1] := List.getElem?_eq_getElem (by omega)
    have i1 : atI (p.map V.str) (0 + (i : Int)) = some (.str p[i]) := by
      rw [Int.zero_add]
      exact atI_nat (by rw [List.getElem?_map, q1]; rfl)
    have i2 : atI (p.map V.str) (0 + (i : Int) + 1) = some (.str p[i + 1]) := by
      rw [Int.zero_add, show (i : Int) + 1 = ((i + 1 : Nat) : Int) by omega]
      exact atI_nat (by rw [List.getElem?_map, q2]; rfl)
    refine ⟨_, rfl, _, rfl, A, _, _, _, rfl, rfl, .inl (.inl hAG), i1, _, rfl, _, rfl, _, _, rfl, rfl, A, _, _, _, rfl, rfl, .inl (.inl hAG), i2, ?_⟩
    refine ⟨_, _, rfl, ?_⟩
    obtain ⟨r, hr, er⟩ := W.inn hv ok (List.getElem_mem (by omega : i < p.length))
    have nb := W.nb i _ _ q1 q2
    have hm : p[i + 1] ∈ r.2.2 := by
      obtain ⟨s, hs, es, h⟩ := nb
      rw [ok.one hs hr (es.trans er.symm)] at h
      exact h
    have T : TreeAt G d t := ⟨.inl bG.d, bG.R⟩
    refine ⟨_, rfl, _, rfl, _, rfl, d, _, rfl, er ▸ T.get ok hr, r.2.1, _, rfl, .inl (T.row hr K), rfl, flat_strs _, ?_⟩
    rw [inV_in hm]
    refine ⟨false, rfl, iteF ?_⟩
    refine ⟨_, rfl, _, rfl, _, rfl, d, t, r, x, by rw [er]; rfl, bG.d, bG.R, ok, hr, hx, bG.tabs, fun G2 z ps E2 S hz => ?_⟩
    have nx := Wk.next (W.drop q1) ok ⟨r, hr, er⟩ (by rw [drop_last (by omega), L]) S (er ▸ hz)
    rw [List.getElem?_append_left (by rw [List.length_drop]; omega), List.getElem?_drop, q2] at nx
    obtain rfl := Option.some.inj nx
    refine ⟨_, rfl, rfl, _, rfl, iteNS rfl ?_⟩
    exact ⟨_, _, _, rfl, E0.trans E2⟩
  rintro σ' H4 ⟨v4, v5, v6, rfl, E4⟩
  have b4 := b3.ext E4
  have hA4 := E4.get b3.tabs hA3 fun _ z => HO.noConfusion z
  refine ⟨_, rfl, A, _, rfl, .inl (.inl (.inl hA4)), _, _, rfl, rfl, ⟨by decide, by decide⟩, ?_⟩
  obtain ⟨h, eh, hl⟩ : ∃ h : Nat, (((p.map V.str).length : Int) / 2) = h ∧ h < p.length := ⟨p.length / 2, by rw [List.length_map]; omega, by omega⟩
  change gName 7 (V.int (((p.map V.str).length : Int) / 2)) _ _ _
  rw [eh]
  have qh : p[h]? = some p[h] := List.getElem?_eq_getElem hl
  have ih : atI (p.map V.str) (h : Int) = some (.str p[h]) := atI_nat (by rw [List.getElem?_map, qh]; rfl)
  obtain ⟨m, hm, em⟩ := W.inn hv ok (List.getElem_mem hl)
  -- the first half
  refine ⟨_, rfl, _, rfl, _, rfl, _, rfl, A, _, _, _, rfl, rfl, .inl (.inl hA4), ih, d, t, v, m, by rw [em]; rfl, b4.d, b4.R, ok, hv, hm, b4.tabs, fun H5 A5 p5 e5 hA50 hA5 W5 L5 l5 => ?_⟩
  have b5 := b4.ext e5
  have hAA5 := e5.get b4.tabs hA4 fun _ z => HO.noConfusion z
  obtain rfl : p5 = p.take (h + 1) := Wk.same hv ok W5 (W.take (Nat.succ_pos _)) (by rw [L5, take_last qh, em])
  refine ⟨_, rfl, _, rfl, _, _, rfl, rfl, _, rfl, A, _, rfl, .inl (.inl hAA5), fun B5 hB5 => ?_⟩
  rw [show (h : Int) + 1 = ((h + 1 : Nat) : Int) by omega, cut_take]
  have e6 : Ext Ps H5 (upd H5 B5 (.lst ((p.take (h + 1)).map V.str))) := .new hB5
  have hB6 : upd H5 B5 (.lst ((p.take (h + 1)).map V.str)) B5 = some (.lst ((p.take (h + 1)).map V.str)) := upd_same
  generalize upd H5 B5 (.lst ((p.take (h + 1)).map V.str)) = H6 at e6 hB6
  have b6 := b5.ext e6
  have hA6 := e6.get b5.tabs hAA5 fun _ z => HO.noConfusion z
  have s6 := neD (q := p.take (h + 1)) fun y hy => List.mem_of_mem_take hy
  refine ⟨_, _, .lst (.inl (.inl (e6.get b5.tabs hA5 fun _ z => HO.noConfusion z))) (dpAll_strs _), .lst (.inl (.inl hB6)) (dpAll_strs _), s6, s6, false, eq1 _, iteF ?_⟩
  -- the other half
  refine ⟨_, rfl, _, rfl, _, rfl, A, _, _, _, rfl, rfl, .inl (.inl hA6), ih, _, rfl, d, t, m, x, by rw [em]; rfl, b6.d, b6.R, ok, hm, hx, b6.tabs, fun H7 A7 p7 e7 hA70 hA7 W7 L7 l7 => ?_⟩
  have b7 := b6.ext e7
  have hAA7 := e7.get b6.tabs hA6 fun _ z => HO.noConfusion z
  obtain rfl : p7 = p.drop h := Wk.same hm ok W7 (em ▸ W.drop qh) (by rw [L7, drop_last hl, L])
  refine ⟨_, rfl, _, rfl, _, rfl, A, _, rfl, .inl (.inl hAA7), fun B7 hB7 => ?_⟩
  rw [cut_drop]
  have e8 : Ext Ps H7 (upd H7 B7 (.lst ((p.drop h).map V.str))) := .new hB7
  have hB8 : upd H7 B7 (.lst ((p.drop h).map V.str)) B7 = some (.lst ((p.drop h).map V.str)) := upd_same
  generalize upd H7 B7 (.lst ((p.drop h).map V.str)) = H8 at e8 hB8
  have s8 := neD (q := p.drop h) fun y hy => List.mem_of_mem_drop hy
  refine ⟨_, _, .lst (.inl (.inl (e8.get b7.tabs hA7 fun _ z => HO.noConfusion z))) (dpAll_strs _), .lst (.inl (.inl hB8)) (dpAll_strs _), s8, s8, ?_⟩
  show Q (.bl (PyData.eqvAll ((p.drop h).map PyData.str) ((p.drop h).map PyData.str))) _
  rw [eqvAll_strs]
  exact hQ _ (e1.trans (e2.trans (e3.trans (E4.trans (e5.trans (e6.trans (e7.trans e8)))))))
end
end A8
set_option Elab.async false
set_option linter.all false
set_option maxRecDepth 100000
set_option maxHeartbeats 8000000
namespace A8
open PySem PySem.Spec PyProof.Rows L2 AL
open GxR (TabB TabG Tabbed)
abbrev sMid : Stmt := top 25
abbrev nMid : List Str := ["tree", "one", "other", "third", "first", "second", "last", "node"]
theorem scMid : FnScope nMid ["tree", "one", "other", "third"] (defScope sMid) := ⟨rfl, rfl, rfl, by decide +kernel, rfl, by decide +kernel, by decide +kernel⟩
def spMid (Ps : List Addr) : Sp := fun vs H Q _ => ∃ (d : Addr) (t : List Row) (v x u : Row), vs = [.ref d, .str v.1, .str x.1, .str u.1] ∧ H d = some (.dK (kvsOf t)) ∧ RowsAt H t ∧ OkTree t ∧ v ∈ t ∧ x ∈ t ∧ u ∈ t ∧ Tabs Ps H ∧ ∀ H', Ext Ps H H' → Q (.bl true) H'
section
variable {P : Program} {w : World} {K : PySem.W.Frag} {mg : Str → Option Value} {base : Heap} {f c p1 : Addr} {fd : FuncData} {Ps : List Addr}
theorem ok_mid (F : FunD K "_law_middle_right" "_law_middle_right" (defArgs sMid) (defBody sMid) (defScope sMid) [] [] f fd) (cB : Cal P w K mg base 7 "path_between" (spPath Ps)) (gL : mg "len" = none) : FnOk P w K mg base CX0 8 f fd ["tree", "one", "other", "third"] (spMid Ps) := by
  refine F.ok scMid (fun vs H Q E h => ?_) ?_
  · obtain ⟨d, t, v, x, u, rfl, _⟩ := h
    rfl
  intro cdv A outer s H vs Q E hr h
  refine ⟨_, PSs.nox (pss_cons (ps_set (i := 4) scMid.nd rfl (Or.inl rfl) (pe_c cB hr (by decide) rfl (pa_cons (pv 0) (pa_cons (pv 1) (pa_cons (pv 2) pa_nil)))))
    (pss_cons (ps_asg (pe_tup (pa_cons (pe_c cB hr (by decide) rfl (pa_cons (pv 0) (pa_cons (pv 2) (pa_cons (pv 3) pa_nil)))) (pa_cons (pe_c cB hr (by decide) rfl (pa_cons (pv 0) (pa_cons (pv 1) (pa_cons (pv 3) pa_nil)))) pa_nil)))
      (pg_tup rfl (pgs_cons (pg_name (i := 5) scMid.nd rfl (Or.inr rfl)) (pgs_cons (pg_name (i := 6) scMid.nd rfl (Or.inr rfl)) pgs_nil))))
    (pss_one (ps_ret (pe_cmpR op_eq (pe_callB call_len_seq rfl gL boot_len (pa_cons
      (pe_lc (own := [("node", 7)]) (g := gName 7) (tt := tAnd (tTest (tOp (rIn K false) (tVar 7) (tVar 5))) (tTest (tOp (rIn K false) (tVar 7) (tVar 6)))) (te := tVar 7) rfl scMid.nd (pi_list (pv 4)) (blkOk_by (N := nMid) (sc := defScope sMid) (by decide +kernel))
        (fun _ _ _ _ _ => pg_name (i := 7) scMid.nd rfl (Or.inl rfl)) (fun _ _ _ _ _ => pts_one (PW.pt (pw_and (pt_cmpR op_in_seq (pv 7) (pv 5) rfl) (pw_and1 (pt_cmpR op_in_seq (pv 7) (pv 6) rfl))))) (fun _ _ _ _ _ => pv 7)) pa_nil)) pe_int (nomark _)))))), ?_⟩
  obtain ⟨d, t, v, x, u, rfl, hd, hR, ok, hv, hx, hu, ht, hQ⟩ := h
  have b0 : Bw Ps H d t := ⟨ht, hd, hR⟩
  refine ⟨_, rfl, _, rfl, _, rfl, d, t, v, x, rfl, hd, hR, ok, hv, hx, ht, fun H1 A1 p e1 hA10 hA1 W L l40 => ?_⟩
  have b1 := b0.ext e1
  refine ⟨_, rfl, _, rfl, _, rfl, d, t, x, u, rfl, b1.d, b1.R, ok, hx, hu, b1.tabs, fun H2 A2 B e2 hA20 hA2 WB LB lB => ?_⟩
  have b2 := b1.ext e2
  refine ⟨_, rfl, _, rfl, _, rfl, d, t, v, u, rfl, b2.d, b2.R, ok, hv, hu, b2.tabs, fun H3 A3 C e3 hA30 hA3 WC LC lC => ?_⟩
  have b3 := b2.ext e3
  have hA1' := e3.get b2.tabs (e2.get b1.tabs hA1 fun _ z => HO.noConfusion z) fun _ z => HO.noConfusion z
  have hA2' := e3.get b2.tabs hA2 fun _ z => HO.noConfusion z
  refine ⟨by show 2 ≤ sizeLine; decide, fun tp htp => ?_⟩
  have e4 : Ext Ps H3 (upd H3 tp (.tup [.ref A2, .ref A3])) := .new htp
  have h4 : upd H3 tp (.tup [.ref A2, .ref A3]) tp = some (.tup [.ref A2, .ref A3]) := upd_same
  generalize upd H3 tp (.tup [.ref A2, .ref A3]) = H4 at e4 h4
  have g1 := e4.get b3.tabs hA1' fun _ z => HO.noConfusion z
  have g2 := e4.get b3.tabs hA2' fun _ z => HO.noConfusion z
  have g3 := e4.get b3.tabs hA3 fun _ z => HO.noConfusion z
  refine ⟨tp, _, rfl, .inl (.inl h4), rfl, _, _, rfl, _, _, rfl, rfl, ?_⟩
  refine ⟨_, rfl, A1, rfl, ⟨_, .inl (.inl g1)⟩, fun D hD => ?_⟩
  have k : ∀ {a : Addr} {o : HO} (q : HO), H4 a = some o → upd H4 D q a = some o := fun {a o} q e => by rw [upd_ne (ne_of_none e hD)]; exact e
  refine lc_list (K := K) (xs := p.map V.str) (fun j G => G = upd H4 D (.lst (((p.take j).filter fun y => decide (y ∈ B) && decide (y ∈ C)).map V.str))) rfl (fun j G _ e => by
    rw [e]
    exact .inl (.inl (k _ g1))) ?_ ?_
  · rintro j y G hy rfl
    rw [List.getElem?_map] at hy
    cases hz : p[j]? with
    | none => rw [hz] at hy; cases hy
    | some z =>
    rw [hz] at hy
    cases hy
    have jl := at_lt hz
    have tk : p.take (j + 1) = p.take j ++ [z] := by rw [List.take_succ, hz]; rfl
    have no : ¬ (z ∈ B ∧ z ∈ C) → ((p.take (j + 1)).filter fun y => decide (y ∈ B) && decide (y ∈ C)) = (p.take j).filter fun y => decide (y ∈ B) && decide (y ∈ C) := fun h => by
      rw [tk, List.filter_append, List.filter_cons_of_neg (by rw [Bool.and_eq_true, decide_eq_true_eq, decide_eq_true_eq]; exact h), List.filter_nil, List.append_nil]
    refine ⟨rfl, _, rfl, _, rfl, A2, _, rfl, .inl (.inl (.inl (k _ g2))), rfl, flat_strs _, ?_⟩
    by_cases c1 : z ∈ B
    · rw [inV_in c1]
      refine ⟨true, rfl, iteT ?_⟩
      refine ⟨_, rfl, _, rfl, A3, _, rfl, .inl (.inl (.inl (k _ g3))), rfl, flat_strs _, ?_⟩
      by_cases c2 : z ∈ C
      · rw [inV_in c2]
        refine ⟨true, rfl, iteT ?_⟩
        refine ⟨_, rfl, _, upd_same, ?_, ?_⟩
        · have := List.length_filter_le (fun y => decide (y ∈ B) && decide (y ∈ C)) (p.take j)
          rw [List.length_take] at this
          rw [List.length_map, sizeLine_eq]
          omega
        · rw [upd_upd, tk, List.filter_append, List.map_append, List.filter_cons_of_pos (by rw [Bool.and_eq_true]; exact ⟨decide_eq_true c1, decide_eq_true c2⟩)]
          rfl
      · rw [inV_strs c2]
        refine ⟨false, rfl, iteF ?_⟩
        show _ = _
        rw [no fun z => c2 z.2]
    · rw [inV_strs c1]
      refine ⟨false, rfl, iteF (iteF ?_)⟩
      show _ = _
      rw [no fun z => c1 z.1]
  rintro G rfl
  rw [List.length_map, List.take_length]
  have one := median ok hv hx hu W L WB LB WC LC
  refine ⟨D, _, rfl, .inl (.inl (.inl upd_same)), rfl, ?_⟩
  rw [List.length_map, one]
  rw [show decide (V.int ((1 : Nat) : Int) = V.int 1) = true from rfl]
  exact hQ _ (e1.trans (e2.trans (e3.trans (e4.trans (.new hD)))))
end
end A8
set_option Elab.async false
set_option linter.all false
set_option maxRecDepth 100000
set_option maxHeartbeats 8000000
namespace A8
open PySem PySem.Spec PyProof.Rows L2 AL
open GxR (TabB TabG Tabbed)
theorem exists_walk {t : List Row} (ok : OkTree t) {r v : Row} (hr : r ∈ t) (hv : v ∈ t) : ∃ p, Wk t v.1 p ∧ p.getLast? = some r.1 := by
  obtain ⟨ps, S⟩ := exists_steps ok hr
  obtain ⟨q, hq, e⟩ := List.mem_map.mp (S.all v hv)
  obtain ⟨i, li, ei⟩ := List.mem_iff_getElem.mp hq
  obtain ⟨p, c, p0, pl⟩ := exists_path S ok _ i v.1 q.2 (Nat.lt_succ_self i) (by rw [List.getElem?_eq_getElem li, ei, ← e])
  exact ⟨p, c.wk S ok p0, pl⟩
theorem room65 {k : Nat} {A : Around} (r : Room k A) : A.units + 65 < cLine := by have := r.un; omega
theorem cut_drop1 (p : List Str) : cutV (p.map V.str) (some 1) none = (p.drop 1).map V.str := cut_drop p 1
/-- the steps of a walk, both ways -/
def stepsL (p : List Str) : List (Str × Str) := p.zip (p.drop 1) ++ (p.drop 1).zip p
theorem mem_steps {p : List Str} {a b : Str} : (a, b) ∈ stepsL p ↔ (∃ i, p[i]? = some a ∧ p[i + 1]? = some b) ∨ ∃ i, p[i]? = some b ∧ p[i + 1]? = some a := by
  unfold stepsL
  rw [List.mem_append, List.mem_iff_getElem?, List.mem_iff_getElem?]
  refine or_congr (exists_congr fun i => ?_) (exists_congr fun i => ?_)
  · rw [List.getElem?_zip_eq_some, List.getElem?_drop, Nat.add_comm 1 i]
  · rw [List.getElem?_zip_eq_some, List.getElem?_drop, Nat.add_comm 1 i, and_comm]
theorem edge_side {t : List Row} {P : List Str} {n m : Row} {x y : Str} {px py qx qy : List Str} (ok : OkTree t) (hn : n ∈ t) (hm : m ∈ t) (W : Wk t n.1 P) (l : P.getLast? = some m.1) (nb : Nb t x y)
    (Wx : Wk t n.1 px) (lx : px.getLast? = some x) (Wy : Wk t n.1 py) (ly : py.getLast? = some y) (Vx : Wk t m.1 qx) (mx : qx.getLast? = some x) (Vy : Wk t m.1 qy) (my : qy.getLast? = some y) :
    decide ((x, y) ∈ stepsL P) = !decide (V.bl (decide (px.length < py.length)) = V.bl (decide (qx.length < qy.length))) := by
  have d1 : px.length < py.length ∨ py.length < px.length := by
    rcases side ok hn nb Wx lx Wy ly with z | z <;> rw [z, List.length_append] <;> simp
  have d2 : qx.length < qy.length ∨ qy.length < qx.length := by
    rcases side ok hm nb Vx mx Vy my with z | z <;> rw [z, List.length_append] <;> simp
  by_cases c : (x, y) ∈ stepsL P
  · rw [decide_eq_true c]
    rcases mem_steps.mp c with ⟨i, h1, h2⟩ | ⟨i, h1, h2⟩
    · obtain ⟨a1, a2⟩ := cross1 ok hn hm W l h1 h2 Wx lx Wy ly Vx mx Vy my
      rw [decide_eq_true a1, decide_eq_false (show ¬ qx.length < qy.length by omega)]
      rfl
    · obtain ⟨a1, a2⟩ := cross1 ok hn hm W l h1 h2 Wy ly Wx lx Vy my Vx mx
      rw [decide_eq_false (show ¬ px.length < py.length by omega), decide_eq_true a2]
      rfl
  · rw [decide_eq_false c]
    by_cases e1 : px.length < py.length <;> by_cases e2 : qx.length < qy.length
    · rw [decide_eq_true e1, decide_eq_true e2]
      rfl
    · exact (c (mem_steps.mpr (.inl (cross2 ok hn hm W l nb Wx lx Wy ly Vx mx Vy my e1 (by omega))))).elim
    · exact (c (mem_steps.mpr (.inr (cross2 ok hn hm W l (ok.nbS nb) Wy ly Wx lx Vy my Vx mx (by omega) e2)))).elim
    · rw [decide_eq_false e1, decide_eq_false e2]
      rfl
theorem paired_map {α β γ : Type} {F : α → γ → Prop} {g : β → γ} : ∀ {as : List α} {bs : List β}, Paired F as (bs.map g) → Paired (fun a b => F a (g b)) as bs
  | [], [], _ => .nil
  | _ :: _, [], h => by cases h
  | [], _ :: _, h => by cases h
  | a :: as, b :: bs, h => by
    cases h with
    | cons h k => exact .cons h (paired_map k)
theorem pairs_zip {H : Hp} {ts : List Addr} {p q : List Str} (h : Paired (fun t (z : V × V) => H t = some (.tup [z.1, z.2])) ts ((p.map V.str).zip (q.map V.str))) : PairsAt H ts (p.zip q) := by
  rw [List.zip_map] at h
  exact paired_map (F := fun t (z : V × V) => H t = some (.tup [z.1, z.2])) (g := Prod.map V.str V.str) h
theorem eqv_pair (u w a b : Str) : PyData.eqv (.tuple [.str u, .str w]) (.tuple [.str a, .str b]) = decide ((u, w) = (a, b)) := by
  have e : PyData.eqv (.tuple [.str u, .str w]) (.tuple [.str a, .str b]) = (u == a && (w == b && true)) := rfl
  rw [e, Bool.eq_iff_iff]
  simp
theorem any_pairs (a b : Str) : ∀ qs : List (Str × Str), ((qs.map fun q => PyData.tuple [.str q.1, .str q.2]).any fun z => PyData.eqv z (.tuple [.str a, .str b])) = decide ((a, b) ∈ qs)
  | [] => rfl
  | q :: qs => by
    rw [List.map_cons, List.any_cons, any_pairs a b qs, eqv_pair, Bool.eq_iff_iff, Bool.or_eq_true, decide_eq_true_eq, decide_eq_true_eq, decide_eq_true_eq, List.mem_cons]
    exact or_congr eq_comm Iff.rfl
abbrev sEdgeR : Stmt := top 26
abbrev nEdgeR : List Str := ["tree", "edge", "one", "other", "path", "steps", "halves", "node", "far", "mate"]
theorem scEdgeR : FnScope nEdgeR ["tree", "edge", "one", "other"] (defScope sEdgeR) := ⟨rfl, rfl, rfl, by decide +kernel, rfl, by decide +kernel, by decide +kernel⟩
def spEdgeR (Ps : List Addr) : Sp := fun vs H Q _ => ∃ (d e : Addr) (t : List Row) (v x : Row) (a b : Str), vs = [.ref d, .ref e, .str v.1, .str x.1] ∧ H d = some (.dK (kvsOf t)) ∧ RowsAt H t ∧ OkTree t ∧ v ∈ t ∧ x ∈ t ∧ H e = some (.tup [.str a, .str b]) ∧ Nb t a b ∧ Tabs Ps H ∧ ∀ H', Ext Ps H H' → Q (.bl true) H'
section
variable {P : Program} {w : World} {K : PySem.W.Frag} {mg : Str → Option Value} {base : Heap} {f c p1 : Addr} {fd : FuncData} {Ps : List Addr}
theorem ok_edgeR (F : FunD K "_law_edge_right" "_law_edge_right" (defArgs sEdgeR) (defBody sEdgeR) (defScope sEdgeR) [] [] f fd) (cB : Cal P w K mg base 7 "path_between" (spPath Ps)) (gL : mg "len" = none) (gZ : mg "zip" = none) (gT : mg "list" = none) :
    FnOk P w K mg base CX0 8 f fd ["tree", "edge", "one", "other"] (spEdgeR Ps) := by
  refine F.ok scEdgeR (fun vs H Q E h => ?_) ?_
  · obtain ⟨d, e, t, v, x, a, b, rfl, _⟩ := h
    rfl
  intro cdv A outer s H vs Q E hr h
  refine ⟨_, PSs.nox (pss_cons (ps_set (i := 4) scEdgeR.nd rfl (Or.inl rfl) (pe_c cB hr (by decide) rfl (pa_cons (pv 0) (pa_cons (pv 2) (pa_cons (pv 3) pa_nil)))))
    (pss_cons (ps_set (i := 5) scEdgeR.nd rfl (Or.inl rfl) (pe_op op_cat (pe_listZip rfl rfl gT rfl gZ (pa_cons (pv 4) (pa_cons (pe_slice sl_list (pv 4) (po_some pe_int) po_none) pa_nil))) (pe_listZip rfl rfl gT rfl gZ (pa_cons (pe_slice sl_list (pv 4) (po_some pe_int) po_none) (pa_cons (pv 4) pa_nil)))))
    (pss_cons (ps_set (i := 6) scEdgeR.nd rfl (Or.inl rfl) (pe_lst pa_nil))
    (pss_cons (ps_for PassesOwn.never rfl (pi_list (pe_lst (pa_cons (pv 2) (pa_cons (pv 3) pa_nil)))) (pg_name (i := 7) scEdgeR.nd rfl (Or.inr rfl))
      (pss_cons (ps_setLc (i := 8) (own := [("mate", 9)]) (g := gName 9) (tt := tYes) (te := tCB (rLenQ K) (tCons (tCall (spPath Ps) [] E0 (tCons (tVar 0) (tCons (tVar 7) (tCons (tVar 9) tNil)))) tNil)) rfl scEdgeR.nd rfl rfl (sw_true rfl rfl rfl (by decide +kernel)) (pi_tup (pv 1)) (blkOk_by (N := nEdgeR) (sc := defScope sEdgeR) (by decide +kernel))
        (fun _ _ _ _ _ => pg_name (i := 9) scEdgeR.nd rfl (Or.inl rfl)) (fun _ _ _ _ _ => pts_nil) (fun _ _ _ _ _ => pe_callB call_len_seq rfl gL boot_len (pa_cons (pe_c cB hr (by decide) rfl (pa_cons (pv 0) (pa_cons (pv 7) (pa_cons (pv 9) pa_nil)))) pa_nil)))
      (pss_one (ps_expr (pe_bm PySem.F.plainAttrs_list PySem.F.slot_list_append PySem.F.type_list_append mt_append (pv 6) (pa_cons (pe_cmpR op_lt (pe_ix ix_list (pv 8) pe_int (fun _ _ => rfl)) (pe_ix ix_list (pv 8) pe_int (fun _ _ => rfl)) (nomark _)) pa_nil))))))
    (pss_one (ps_ret (pe_cmpR op_eq (pe_cmpR (op_inD (room65 hr)) (pv 1) (pv 5) rfl) (pe_cmpR op_ne (pe_ix ix_list (pv 6) pe_int (fun _ _ => rfl)) (pe_ix ix_list (pv 6) pe_int (fun _ _ => rfl)) rfl) (nomark _)))))))), ?_⟩
  obtain ⟨d, e, t, v, x, a, b, rfl, hd, hR, ok, hv, hx, he, nb, ht, hQ⟩ := h
  have n40 := ok.n40
  have b0 : Bw Ps H d t := ⟨ht, hd, hR⟩
  refine ⟨_, rfl, _, rfl, _, rfl, d, t, v, x, rfl, hd, hR, ok, hv, hx, ht, fun H1 A1 p e1 hA10 hA1 W L l40 => ?_⟩
  have b1 := b0.ext e1
  have he1 := e1.get ht he fun _ z => HO.noConfusion z
  have zl : ∀ {ts : List Addr} {G : Hp} {qs : List (Str × Str)}, PairsAt G ts qs → qs.length ≤ 40 → ts.length ≤ 40 := fun {ts G qs} h l => by rw [h.len]; exact l
  have z1 : (p.zip (p.drop 1)).length ≤ 40 := by rw [List.length_zip]; exact Nat.le_trans (Nat.min_le_left _ _) l40
  have z2 : ((p.drop 1).zip p).length ≤ 40 := by rw [List.length_zip]; exact Nat.le_trans (Nat.min_le_right _ _) l40
  -- steps
  refine ⟨_, rfl, _, rfl, _, rfl, A1, _, rfl, .inl (.inl hA1), fun S1 hS1 => ?_⟩
  rw [cut_drop1]
  have e2 : Ext Ps H1 (upd H1 S1 (.lst ((p.drop 1).map V.str))) := .new hS1
  have hS2 : upd H1 S1 (.lst ((p.drop 1).map V.str)) S1 = some (.lst ((p.drop 1).map V.str)) := upd_same
  generalize upd H1 S1 (.lst ((p.drop 1).map V.str)) = H2 at e2 hS2
  have hA2 := e2.get b1.tabs hA1 fun _ z => HO.noConfusion z
  refine ⟨A1, S1, _, _, rfl, .inl (.inl hA2), .inl (.inl hS2), fun Z1 ts1 H3 k3 hZ10 hZ1 pr1 => ?_⟩
  have pr1 := pairs_zip pr1
  have e3 : Ext Ps H2 H3 := Ext.same k3
  have hA3 := k3 _ _ hA2
  refine ⟨_, rfl, _, rfl, A1, _, rfl, .inl (.inl hA3), fun S2 hS3 => ?_⟩
  rw [cut_drop1]
  have e4 : Same H3 (upd H3 S2 (.lst ((p.drop 1).map V.str))) := snew hS3
  have hS4 : upd H3 S2 (.lst ((p.drop 1).map V.str)) S2 = some (.lst ((p.drop 1).map V.str)) := upd_same
  generalize upd H3 S2 (.lst ((p.drop 1).map V.str)) = H4 at e4 hS4
  have hA4 := e4 _ _ hA3
  refine ⟨_, rfl, S2, A1, _, _, rfl, .inl (.inl hS4), .inl (.inl hA4), fun Z2 ts2 H5 k5 hZ20 hZ2 pr2 => ?_⟩
  have pr2 := pairs_zip pr2
  have hZ15 := k5 _ _ (e4 _ _ hZ1)
  have pr15 := pr1.keep fun b xs q => k5 _ _ (e4 _ _ q)
  refine ⟨Z1, Z2, _, _, rfl, rfl, hZ15, hZ2, ?_, fun St hSt => ?_⟩
  · have := zl pr15 z1
    have := zl pr2 z2
    rw [List.length_map, List.length_map, sizeLine_eq]
    omega
  have e6 : Same H5 (upd H5 St (.lst (ts1.map V.ref ++ ts2.map V.ref))) := snew hSt
  have hSt6 : upd H5 St (.lst (ts1.map V.ref ++ ts2.map V.ref)) St = some (.lst ((ts1 ++ ts2).map V.ref)) := by rw [upd_same, List.map_append]
  generalize upd H5 St (.lst (ts1.map V.ref ++ ts2.map V.ref)) = H6 at e6 hSt6
  have prS : PairsAt H6 (ts1 ++ ts2) (stepsL p) := (pr15.append pr2).keep fun b xs q => e6 _ _ q
  have s26 : Same H2 H6 := fun b o q => e6 _ _ (k5 _ _ (e4 _ _ (k3 _ _ q)))
  have E6 := e2.trans (Ext.same (Ps := Ps) s26)
  have b6 := b1.ext E6
  have he6 := E6.get b1.tabs he1 fun _ z => HO.noConfusion z
  -- halves
  refine ⟨by show 0 ≤ sizeLine; exact Nat.zero_le _, fun Hv hHv => ?_⟩
  have hHv0 : H6 Hv = none := hHv
  have Hvn := notPs b6.tabs hHv0
  have e7 : Ext Ps H6 (upd H6 Hv (.lst [])) := .new hHv
  have hHv7 : upd H6 Hv (.lst []) Hv = some (.lst []) := upd_same
  generalize upd H6 Hv (.lst []) = H7 at e7 hHv7
  have b7 := b6.ext e7
  refine ⟨_, rfl, _, rfl, by show 2 ≤ sizeLine; decide, fun Ls hLs => ?_⟩
  have LH : Hv ≠ Ls := ne_of_none hHv7 hLs
  have e8 : Ext Ps H6 (upd H7 Ls (.lst [.str v.1, .str x.1])) := e7.trans (.new hLs)
  have hL8 : upd H7 Ls (.lst [.str v.1, .str x.1]) Ls = some (.lst [.str v.1, .str x.1]) := upd_same
  have hHv8 : upd H7 Ls (.lst [.str v.1, .str x.1]) Hv = some (.lst []) := by rw [upd_ne LH]; exact hHv7
  generalize upd H7 Ls (.lst [.str v.1, .str x.1]) = H8 at e8 hL8 hHv8
  refine ⟨Ls, rfl, ⟨_, .inl (.inl hL8)⟩, ?_⟩
  obtain ⟨ra, hra, era⟩ := nb.left
  obtain ⟨rb, hrb, erb⟩ := nb.right ok
  obtain ⟨px, Wx, lx⟩ := exists_walk ok hra hv
  obtain ⟨py, Wy, ly⟩ := exists_walk ok hrb hv
  obtain ⟨qx, Vx, mx⟩ := exists_walk ok hra hx
  obtain ⟨qy, Vy, my⟩ := exists_walk ok hrb hx
  obtain ⟨hs, ehs⟩ : ∃ hs : List V, hs = [V.bl (decide (px.length < py.length)), V.bl (decide (qx.length < qy.length))] := ⟨_, rfl⟩
  refine for_list (K := K) (xs := [V.str v.1, V.str x.1]) (fun i σ' G => ∃ v7 v8, σ' = [some (.ref d), some (.ref e), some (.str v.1), some (.str x.1), some (.ref A1), some (.ref St), some (.ref Hv), v7, v8, none] ∧ Ext Ps H6 G ∧ G Hv = some (.lst (hs.take i)) ∧ G Ls = some (.lst [.str v.1, .str x.1]))
    ⟨_, _, rfl, e8, hHv8, hL8⟩ (fun i σ' G _ ⟨_, _, _, _, _, h⟩ => .inl (.inl h)) ?_ ?_
  · rintro i y σ' G hy ⟨v7, v8, rfl, EG, hHG, hLG⟩
    obtain ⟨n, na, nb', hn, ey, Wa, la, Wb, lb, ehs'⟩ : ∃ (n : Row) (na nb' : List Str), n ∈ t ∧ y = .str n.1 ∧ Wk t n.1 na ∧ na.getLast? = some ra.1 ∧ Wk t n.1 nb' ∧ nb'.getLast? = some rb.1 ∧ hs.take (i + 1) = hs.take i ++ [V.bl (decide (na.length < nb'.length))] := by
      match i, hy with
      | 0, hy => exact ⟨v, px, py, hv, (Option.some.inj hy).symm, Wx, lx, Wy, ly, by rw [ehs]; rfl⟩
      | 1, hy => exact ⟨x, qx, qy, hx, (Option.some.inj hy).symm, Vx, mx, Vy, my, by rw [ehs]; rfl⟩
    subst ey
    have hi2 : i < 2 := (List.getElem?_eq_some_iff.mp hy).1
    have bG := b6.ext EG
    have heG := EG.get b6.tabs he6 fun _ z => HO.noConfusion z
    refine ⟨_, rfl, e, rfl, ⟨_, .inl (.inl heG)⟩, fun D hD => ?_⟩
    have HD : Hv ≠ D := ne_of_none hHG hD
    have LD : Ls ≠ D := ne_of_none hLG hD
    have D0 : H6 D = none := EG.none hD b6.tabs
    have Dn := notPs b6.tabs D0
    refine lc_tup (K := K) (xs := [V.str a, V.str b]) (fun j G' => Ext Ps H6 G' ∧ G' D = some (.lst ([V.int na.length, V.int nb'.length].take j)) ∧ G' Hv = some (.lst (hs.take i)) ∧ G' Ls = some (.lst [.str v.1, .str x.1]))
      ⟨EG.trans (.new hD), upd_same, by rw [upd_ne HD]; exact hHG, by rw [upd_ne LD]; exact hLG⟩ (fun j G' _ h => .inl (.inl (h.1.get b6.tabs he6 fun _ z => HO.noConfusion z))) ?_ ?_
    · rintro j z G' hz ⟨E', hD', hH', hL'⟩
      obtain ⟨m, pm, hm, ez, Wm, lm, et⟩ : ∃ (m : Row) (pm : List Str), m ∈ t ∧ z = .str m.1 ∧ Wk t n.1 pm ∧ pm.getLast? = some m.1 ∧ [V.int na.length, V.int nb'.length].take (j + 1) = [V.int na.length, V.int nb'.length].take j ++ [V.int pm.length] := by
        match j, hz with
        | 0, hz => exact ⟨ra, na, hra, by rw [era]; exact (Option.some.inj hz).symm, Wa, la, rfl⟩
        | 1, hz => exact ⟨rb, nb', hrb, by rw [erb]; exact (Option.some.inj hz).symm, Wb, lb, rfl⟩
      subst ez
      have hj2 : j < 2 := (List.getElem?_eq_some_iff.mp hz).1
      have b' := b6.ext E'
      refine ⟨rfl, _, rfl, _, rfl, _, rfl, d, t, n, m, rfl, b'.d, b'.R, ok, hn, hm, b'.tabs, fun G2 A' p' e' hA'0 hA' W' L'' l' => ?_⟩
      obtain rfl : p' = pm := Wk.same hn ok W' Wm (by rw [L'', lm])
      have hD2 := e'.get b'.tabs hD' fun _ z => HO.noConfusion z
      refine ⟨A', _, rfl, .inl (.inl (.inl hA')), _, hD2, ?_, (E'.trans e').put D0 Dn, ?_, ?_, ?_⟩
      · rw [List.length_take, sizeLine_eq]
        show min j 2 < _
        omega
      · rw [upd_same, et, List.length_map]
      · rw [upd_ne HD]
        exact e'.get b'.tabs hH' fun _ z => HO.noConfusion z
      · rw [upd_ne LD]
        exact e'.get b'.tabs hL' fun _ z => HO.noConfusion z
    rintro G' ⟨E', hD', hH', hL'⟩
    have hD' : G' D = some (.lst [V.int na.length, V.int nb'.length]) := hD'
    refine ⟨_, rfl, .inl ⟨rfl, _, .inl (.inl hH')⟩, _, rfl, D, _, _, _, rfl, rfl, .inl (.inl hD'), atI_nat (j := 0) rfl, _, rfl, D, _, _, _, rfl, rfl, .inl (.inl hD'), atI_nat (j := 1) rfl, _, _, rfl, rfl, Hv, _, _, rfl, rfl, hH', ?_, ?_⟩
    · rw [List.length_take, sizeLine_eq]
      omega
    · refine ⟨_, _, rfl, E'.put hHv0 Hvn, ?_, by rw [upd_ne (fun z => by rw [z, hH'] at hL'; injection hL' with q; injection q with q; have := congrArg List.length q; rw [ehs, List.length_take] at this; simp at this; omega)]; exact hL'⟩
      rw [upd_same, ehs']
      have : decide ((na.length : Int) < (nb'.length : Int)) = decide (na.length < nb'.length) := decide_eq_decide.mpr Int.ofNat_lt
      show some (HO.lst (hs.take i ++ [V.bl (decide ((na.length : Int) < (nb'.length : Int)))])) = _
      rw [this]
  rintro σ' H9 ⟨v7, v8, rfl, E9, hH9, _⟩
  have hH9 : H9 Hv = some (.lst hs) := by rw [ehs] at hH9 ⊢; exact hH9
  have he9 := E9.get b6.tabs he6 fun _ z => HO.noConfusion z
  have hSt9 := E9.get b6.tabs hSt6 fun _ z => HO.noConfusion z
  have pr9 := prS.keep fun b xs q => E9.get b6.tabs q fun _ z => HO.noConfusion z
  have ascN : ∀ y ∈ p, Ascii y := fun y hy => by
    obtain ⟨r, hr, e⟩ := W.inn hv ok hy
    exact e ▸ (ok.names r hr).asc
  have shS := shaped_pairs (qs := stepsL p) fun q hq => by
    rcases mem_steps.mp (show (q.1, q.2) ∈ stepsL p from hq) with ⟨i, h1, h2⟩ | ⟨i, h1, h2⟩
    · exact ⟨ascN _ (List.mem_of_getElem? h1), ascN _ (List.mem_of_getElem? h2)⟩
    · exact ⟨ascN _ (List.mem_of_getElem? h2), ascN _ (List.mem_of_getElem? h1)⟩
  have shE : SeqAt.shaped (.tuple [.str a, .str b]) = true := shaped_strs (xs := [a, b]) fun y hy => by
    rcases List.mem_cons.mp hy with rfl | hy
    · exact era ▸ (ok.names ra hra).asc
    · rw [List.mem_singleton.mp hy]
      exact erb ▸ (ok.names rb hrb).asc
  subst ehs
  refine ⟨_, rfl, _, rfl, .tuple [.str a, .str b], (stepsL p).map fun (q : Str × Str) => PyData.tuple [PyData.str q.1, PyData.str q.2], .tup (.inl (.inl he9)) (.cons (.str a) (.cons (.str b) .nil)), .lst (.inl (.inl hSt9)) (dp_pairs pr9), shE, shS, ?_⟩
  refine ⟨_, rfl, Hv, _, _, _, rfl, rfl, .inl (.inl hH9), atI_nat (j := 0) rfl, _, rfl, Hv, _, _, _, rfl, rfl, .inl (.inl hH9), atI_nat (j := 1) rfl, rfl, rfl, ?_⟩
  rw [any_pairs, edge_side ok hv hx W L nb Wx (era ▸ lx) Wy (erb ▸ ly) Vx (era ▸ mx) Vy (erb ▸ my)]
  have rf : ∀ z : Bool, decide (V.bl z = V.bl z) = true := fun z => decide_eq_true rfl
  rw [rf]
  exact hQ _ (e1.trans (E6.trans E9))
end
end A8
set_option Elab.async false
set_option linter.all false
set_option maxRecDepth 100000
set_option maxHeartbeats 8000000
namespace A8
open PySem PySem.Spec PyProof.Rows L2 AL
open GxR (TabB TabG Tabbed)
abbrev sLaw : Stmt := top 27
abbrev nLaw : List Str := ["script", "k", "source", "tree", "nodes", "edges", "turn", "one", "other", "third", "spot", "edge", "node", "halves", "others", "half"]
theorem scLaw : FnScope nLaw ["script"] (defScope sLaw) := ⟨rfl, rfl, rfl, by decide +kernel, rfl, by decide +kernel, by decide +kernel⟩
def spLaw (K : PySem.W.Frag) (Ps : List Addr) : Sp := fun vs H Q _ => ∃ (a : Addr) (ns : List Int), vs = [.ref a] ∧ ns.length ≤ 63 ∧ SqL K H a (ns.map V.int) ∧ Tabs Ps H ∧ SysOk H ∧ ∀ H', Q (.bl true) H'
structure Jk (K : PySem.W.Frag) (Ps : List Addr) (a : Addr) (ns : List Int) (H : Hp) : Prop where
  tabs : Tabs Ps H
  scr : SqL K H a (ns.map V.int)
theorem Jk.ext {K : PySem.W.Frag} {Ps : List Addr} {a : Addr} {ns : List Int} {H H' : Hp} (j : Jk K Ps a ns H) (e : Ext Ps H H') : Jk K Ps a ns H' := by
  refine ⟨e.tabs j.tabs, ?_⟩
  rcases j.scr with h | h
  · exact .inl (e.rd j.tabs h fun _ z => by cases z)
  · exact .inr h
theorem Ext.wo {Ps : List Addr} {HB H : Hp} {p : Addr} {n : Nat} (e : Ext Ps HB H) (hb : HB p = Option.none) (hp : PotAt H p n) : Ext Ps HB (A8.wo p H) where
  kp := fun b o h z => by rw [wo_ne (ne_of_none h hb)]; exact e.kp b o h z
  tb := fun q hq h => by
    obtain ⟨ps, e1, e2⟩ := e.tb q hq h
    exact ⟨ps, by rw [wo_ne (hp.ne' e1 fun _ _ _ z => HO.noConfusion z)]; exact e1, e2⟩
theorem atI_str {xs : List Str} {j : Int} (j0 : 0 ≤ j) (j1 : j < xs.length) : ∃ y, atI (xs.map V.str) j = some (.str y) ∧ y ∈ xs := by
  obtain ⟨n, rfl⟩ : ∃ n : Nat, j = n := ⟨j.toNat, (Int.toNat_of_nonneg j0).symm⟩
  have hn : n < xs.length := by omega
  exact ⟨xs[n], atI_nat (by rw [List.getElem?_map, List.getElem?_eq_getElem hn]; rfl), List.getElem_mem hn⟩
theorem pick4 {i : Int} (i0 : 0 ≤ i) (i1 : i < 4) : ∃ m : Nat, atI [V.int 4, V.int 16, V.int 16, V.int 40] i = some (.int m) ∧ 1 ≤ m ∧ m ≤ 40 := by
  have : i = 0 ∨ i = 1 ∨ i = 2 ∨ i = 3 := by omega
  rcases this with rfl | rfl | rfl | rfl
  · exact ⟨4, rfl, by decide, by decide⟩
  · exact ⟨16, rfl, by decide, by decide⟩
  · exact ⟨16, rfl, by decide, by decide⟩
  · exact ⟨40, rfl, by decide, by decide⟩
theorem mem_cutV {xs : List V} {lo hi : Option Int} {y : V} (h : y ∈ cutV xs lo hi) : y ∈ xs := List.mem_of_mem_drop (List.mem_of_mem_take h)
theorem filter_out : ∀ {l : List Str} {x : Str}, l.Nodup → x ∈ l → (x :: l.filter fun a => decide (a ≠ x)).Perm l
  | a :: l, x, nd, h => by
    have n2 := List.nodup_cons.mp nd
    by_cases e : a = x
    · subst e
      have : (l.filter fun b => decide (b ≠ a)) = l := List.filter_eq_self.mpr fun b hb => decide_eq_true fun z => n2.1 (z ▸ hb)
      rw [List.filter_cons_of_neg (by simp), this]
    · have hx : x ∈ l := by
        rcases List.mem_cons.mp h with z | z
        · exact (e z.symm).elim
        · exact z
      rw [List.filter_cons_of_pos (by simpa using e)]
      exact (List.Perm.swap a x _).trans ((filter_out n2.2 hx).cons a)
theorem flt_pos {z a : Str} (h : z ≠ a) : [z].filter (fun b => decide (b ≠ a)) = [z] := List.filter_eq_self.mpr fun b hb => by
  rw [List.mem_singleton.mp hb]
  exact decide_eq_true h
theorem flt_neg {z a : Str} (h : z = a) : [z].filter (fun b => decide (b ≠ a)) = [] := by
  rw [List.filter_eq_nil_iff]
  intro b hb k
  exact of_decide_eq_true k ((List.mem_singleton.mp hb).trans h)
theorem others_len {ys : List Str} {v : Str} {g : Str → Str} (nd : ys.Nodup) (hv : v ∈ ys) (h : ∀ a ∈ ys, g a = v ↔ a = v) : ((ys.map g).filter fun a => decide (a ≠ v)).length + 1 = ys.length := by
  have e : (ys.map g).filter (fun a => decide (a ≠ v)) = (ys.filter fun a => decide (a ≠ v)).map g := by
    clear nd hv
    induction ys with
    | nil => rfl
    | cons a ys ih =>
      have ih := ih fun b hb => h b (List.mem_cons_of_mem _ hb)
      have ha := h a List.mem_cons_self
      rw [List.map_cons]
      by_cases c : a = v
      · rw [List.filter_cons_of_neg (by rw [decide_eq_true_eq]; exact fun n => n (ha.mpr c)), List.filter_cons_of_neg (by rw [decide_eq_true_eq]; exact fun n => n c), ih]
      · rw [List.filter_cons_of_pos (by rw [decide_eq_true_eq]; exact fun n => c (ha.mp n)), List.filter_cons_of_pos (by rw [decide_eq_true_eq]; exact c), ih]
        rfl
  rw [e, List.length_map]
  exact (filter_out nd hv).length_eq
section
variable {P : Program} {w : World} {K : PySem.W.Frag} {mg : Str → Option Value} {base : Heap} {f c p1 : Addr} {fd : FuncData} {Ps : List Addr}
theorem ok_law (F : FunD K "law" "law" (defArgs sLaw) (defBody sLaw) (defScope sLaw) [] [] f fd)
    (cP : Cal P w K mg base 1 "_law_source" (spSrc K)) (cA : Cal P w K mg base 1 "_law_pick" spPick) (cT : Cal P w K mg base 3 "_law_tree" spTree) (cE : Cal P w K mg base 7 "edges_of" (spEdges Ps)) (cD : Cal P w K mg base 7 "direction" (spDirn Ps))
    (cR : Cal P w K mg base 8 "_law_path_right" (spPathR Ps)) (cM : Cal P w K mg base 8 "_law_middle_right" (spMid Ps)) (cG : Cal P w K mg base 8 "_law_edge_right" (spEdgeR Ps))
    (gR : mg "range" = none) (gL : mg "len" = none) (gM : mg "max" = none) (gN : mg "min" = none) (gS : mg "sorted" = none) (gT : mg "set" = none) : FnG P w K mg base CX0 9 f fd ["script"] (spLaw K Ps) := by
  refine funG_ok F scLaw (fun vs H Q E h => ?_) ?_
  · obtain ⟨a, ns, rfl, _⟩ := h
    rfl
  intro cdv A outer s H vs Q E hgd hr h
  refine ⟨_, PSs.nox (pss_cons (ps_for PassesOwn.never rfl (pi_range1 rfl gR (pa_cons (pe_callB (call_max2 rfl) rfl gM (by decide +kernel) (pa_cons pe_int (pa_cons (pe_callB (call_min2 rfl) rfl gN (by decide +kernel) (pa_cons pe_int (pa_cons (pe_op op_add (pe_callB call_len_seq rfl gL boot_len (pa_cons (pv 0) pa_nil)) pe_int) pa_nil))) pa_nil))) pa_nil)) (pg_name (i := 1) scLaw.nd rfl (Or.inl rfl))
      (pss_cons (ps_set (i := 2) scLaw.nd rfl (Or.inr rfl) (pe_c cP hr (by decide) rfl (pa_cons (pv 0) (pa_cons (pv 1) pa_nil))))
      (pss_cons (ps_set (i := 3) scLaw.nd rfl (Or.inr rfl) (pe_c cT hr (by decide) rfl (pa_cons (pv 2) (pa_cons (pe_ix ix_list (pe_lst (pa_cons pe_int (pa_cons pe_int (pa_cons pe_int (pa_cons pe_int pa_nil))))) (pe_c cA hr (by decide) rfl (pa_cons (pv 2) (pa_cons pe_int pa_nil))) (fun _ _ => rfl)) pa_nil))))
      (pss_cons (ps_asg (pe_tup (pa_cons (pe_callB (call_sortedD rfl) rfl gS (by decide +kernel) (pa_cons (pv 3) pa_nil)) (pa_cons (pe_c cE hr (by decide) rfl (pa_cons (pv 3) pa_nil)) pa_nil))) (pg_tup rfl (pgs_cons (pg_name (i := 4) scLaw.nd rfl (Or.inr rfl)) (pgs_cons (pg_name (i := 5) scLaw.nd rfl (Or.inl rfl)) pgs_nil))))
      (pss_cons (ps_if (pt_cmpR op_ne (pe_callB call_len_seq rfl gL boot_len (pa_cons (pv 5) pa_nil)) (pe_op op_sub (pe_callB call_len_seq rfl gL boot_len (pa_cons (pv 4) pa_nil)) pe_int) rfl) pss_never pss_nil)
      (pss_cons (ps_for PassesOwn.never rfl (pi_range1 rfl gR (pa_cons pe_int pa_nil)) (pg_name (i := 6) scLaw.nd rfl (Or.inl rfl))
        (pss_cons (ps_asg (pe_lc (own := [("spot", 10)]) (g := gName 10) (tt := tYes) (te := tOp (rIxL K) (tVar 4) (tCall spPick [] E0 (tCons (tVar 2) (tCons (tCB (rLenQ K) (tCons (tVar 4) tNil)) tNil)))) rfl scLaw.nd (pi_range1 rfl gR (pa_cons pe_int pa_nil)) (blkOk_by (N := nLaw) (sc := defScope sLaw) (by decide +kernel))
            (fun _ _ _ _ _ => pg_name (i := 10) scLaw.nd rfl (Or.inl rfl)) (fun _ _ _ _ _ => pts_nil)
            (fun _ _ _ _ _ => pe_ix ix_list (pv 4) (pe_c cA hr (by decide) rfl (pa_cons (pv 2) (pa_cons (pe_callB call_len_seq rfl gL boot_len (pa_cons (pv 4) pa_nil)) pa_nil))) (fun _ _ => rfl)))
          (pg_lst rfl (pgs_cons (pg_name (i := 7) scLaw.nd rfl (Or.inl rfl)) (pgs_cons (pg_name (i := 8) scLaw.nd rfl (Or.inl rfl)) (pgs_cons (pg_name (i := 9) scLaw.nd rfl (Or.inl rfl)) pgs_nil)))))
        (pss_cons (ps_if (pt_not (pt_val (pe_c cR hr (by decide) rfl (pa_cons (pv 3) (pa_cons (pv 7) (pa_cons (pv 8) pa_nil)))))) pss_never pss_nil)
        (pss_cons (ps_if (pt_not (pt_val (pe_c cM hr (by decide) rfl (pa_cons (pv 3) (pa_cons (pv 7) (pa_cons (pv 8) (pa_cons (pv 9) pa_nil))))))) pss_never pss_nil)
        (pss_one (ps_for PassesOwn.never rfl (pi_list (pe_op op_cat (pe_op op_cat (pe_slice sl_list (pv 5) po_none (po_some pe_int)) (pe_slice sl_list (pv 5) (po_some (pe_un un_neg pe_int)) po_none))
            (pe_slice sl_list (pe_slice sl_list (pv 5) (po_some (pe_c cA hr (by decide) rfl (pa_cons (pv 2) (pa_cons (pe_callB call_len_seq rfl gL boot_len (pa_cons (pv 4) pa_nil)) pa_nil)))) po_none) po_none (po_some pe_int)))) (pg_name (i := 11) scLaw.nd rfl (Or.inl rfl))
          (pss_one (ps_if (pt_not (pt_val (pe_c cG hr (by decide) rfl (pa_cons (pv 3) (pa_cons (pv 11) (pa_cons (pv 7) (pa_cons (pv 8) pa_nil))))))) pss_never pss_nil))))))))
      (pss_cons (ps_set (i := 12) scLaw.nd rfl (Or.inr rfl) (pe_ix ix_list (pv 4) (pe_c cA hr (by decide) rfl (pa_cons (pv 2) (pa_cons (pe_callB call_len_seq rfl gL boot_len (pa_cons (pv 4) pa_nil)) pa_nil))) (fun _ _ => rfl)))
      (pss_cons (ps_setLc (i := 13) (own := [("other", 8)]) (g := gName 8) (tt := tYes) (te := tCall (spDirn Ps) [] E0 (tCons (tVar 3) (tCons (tVar 12) (tCons (tVar 8) tNil)))) rfl scLaw.nd rfl rfl (sw_true rfl rfl rfl (by decide +kernel)) (pi_list (pv 4)) (blkOk_by (N := nLaw) (sc := defScope sLaw) (by decide +kernel))
        (fun _ _ _ _ _ => pg_name (i := 8) scLaw.nd rfl (Or.inl rfl)) (fun _ _ _ _ _ => pts_nil) (fun _ _ _ _ _ => pe_c cD hr (by decide) rfl (pa_cons (pv 3) (pa_cons (pv 12) (pa_cons (pv 8) pa_nil)))))
      (pss_cons (ps_setLc (i := 14) (own := [("half", 15)]) (g := gName 15) (tt := tTest (tOp rNe (tVar 15) (tVar 12))) (te := tVar 15) rfl scLaw.nd rfl rfl (sw_true rfl rfl rfl (by decide +kernel)) (pi_list (pv 13)) (blkOk_by (N := nLaw) (sc := defScope sLaw) (by decide +kernel))
        (fun _ _ _ _ _ => pg_name (i := 15) scLaw.nd rfl (Or.inl rfl)) (fun _ _ _ _ _ => pts_one (pt_cmpR op_ne (pv 15) (pv 12) rfl)) (fun _ _ _ _ _ => pv 15))
      (pss_one (ps_if (PW.pt (pw_or (pt_cmpR op_ne (pe_callB call_len_seq rfl gL boot_len (pa_cons (pv 14) pa_nil)) (pe_op op_sub (pe_callB call_len_seq rfl gL boot_len (pa_cons (pv 4) pa_nil)) pe_int) rfl)
        (pw_or1 (pt_cmpR (op_neD hr.units) (pe_sortSet rfl rfl gS rfl gT (pv 14)) (pe_dget (hu_of hr) (pv 3) (pv 12) (fun _ _ => rfl)) (nomark _))))) pss_never pss_nil)))))))))))
    (pss_one (ps_ret pe_bl))), ?_⟩
  obtain ⟨a, ns, rfl, hl63, hS, hT, hY, hQ⟩ := h
  obtain ⟨j0, ej0, j01, j08⟩ : ∃ j0 : Int, (if (if (((ns.map V.int).length : Int)) + 1 < 6 then (((ns.map V.int).length : Int)) + 1 else 6) > 1 then (if (((ns.map V.int).length : Int)) + 1 < 6 then (((ns.map V.int).length : Int)) + 1 else 6) else 1) = j0 ∧ 0 ≤ j0 ∧ j0 ≤ 6 := ⟨_, rfl, by split <;> (try split) <;> omega, by split <;> (try split) <;> omega⟩
  refine ⟨_, rfl, a, _, rfl, .inl hS, _, _, rfl, rfl, _, _, rfl, _, _, rfl, _, rfl, ?_⟩
  rw [ej0]
  refine ⟨by omega, by omega, ?_⟩
  refine for_range (lo := 0) (n := j0.toNat) (fun i σ' H' => ∃ w1 w2 w3 w4 w5 w6 w7 w8 w9 w11 w12 w13 w14, σ' = [some (.ref a), w1, w2, w3, w4, w5, w6, w7, w8, w9, none, w11, w12, w13, w14, none] ∧ Jk K Ps a ns H') ⟨_, _, _, _, _, _, _, _, _, _, _, _, _, rfl, hT, hS⟩ ?_ ?_
  · rintro i σ' HB hi ⟨w1, w2, w3, w4, w5, w6, w7, w8, w9, w11, w12, w13, w14, rfl, jB⟩
    have hi8 : i < 8 := by omega
    refine ⟨_, rfl, _, rfl, a, ns, i, by rw [Int.zero_add]; rfl, jB.scr, by omega, fun p x y hp0 x0 y0 y1 => ?_⟩
    have hP1 : PotAt (upd HB p (.lst [.int x, .int y, .int 0])) p 0 := ⟨x, y, 0, upd_same, x0, y0, y1, by decide, by decide⟩
    have e1 : Ext Ps HB (upd HB p (.lst [.int x, .int y, .int 0])) := .new hp0
    generalize upd HB p (.lst [.int x, .int y, .int 0]) = H1 at hP1 e1
    refine ⟨_, rfl, by show 4 ≤ sizeLine; decide, fun L hL => ?_⟩
    have Lp : L ≠ p := hP1.ne hL
    have e2 : Ext Ps HB (upd H1 L (.lst [.int 4, .int 16, .int 16, .int 40])) := e1.trans (.new hL)
    have hP2 := hP1.upd (o := .lst [.int 4, .int 16, .int 16, .int 40]) (Ne.symm Lp)
    have hL2 : upd H1 L (.lst [.int 4, .int 16, .int 16, .int 40]) L = some (.lst [.int 4, .int 16, .int 16, .int 40]) := upd_same
    generalize upd H1 L (.lst [.int 4, .int 16, .int 16, .int 40]) = H2 at e2 hP2 hL2
    refine ⟨_, rfl, p, 4, 0, rfl, hP2, by omega, by decide, by decide, fun H3 z hP3 only3 z0 z1 => ?_⟩
    obtain ⟨m, hm, m1, m40⟩ := pick4 z0 z1
    have e3 := e2.kpw hp0 hP2 (Kp.of only3)
    refine ⟨L, _, _, _, rfl, rfl, .inl (.inl ((only3 L Lp).trans hL2)), hm, p, m, 1, rfl, hP3, by omega, m1, m40, fun H4 d t k4 hd0 hd hR ok tl tpool tad tfr hP4 => ?_⟩
    have e4 := e3.kpw hp0 hP3 k4
    have n1 := ok.n1
    have n40 := ok.n40
    -- nodes, edges
    refine ⟨_, rfl, d, kvsOf t, t.map (·.1), rfl, .inl hd, nmEqK, by rw [List.length_map]; omega, fun ys NS pm hso hs0 => ?_⟩
    have s5 : Same H4 (upd H4 NS (.lst (ys.map V.str))) := snew hs0
    have hNS5 : upd H4 NS (.lst (ys.map V.str)) NS = some (.lst (ys.map V.str)) := upd_same
    generalize upd H4 NS (.lst (ys.map V.str)) = H5 at s5 hNS5
    have e5 := e4.trans (Ext.same s5)
    have b5 : Bw Ps H5 d t := ⟨e5.tabs jB.tabs, s5 _ _ hd, fun r hr => s5 _ _ (hR r hr)⟩
    have hP5 : PotAt H5 p 301 := hP4.extw (Ext.same (Ps := Ps) s5) (e4.tabs jB.tabs)
    have yl : ys.length = t.length := by
      have := pm.length_eq
      rw [List.length_map] at this
      exact this
    have yK : (ys.map V.str).length = t.length := by rw [List.length_map, yl]
    have ynd : ys.Nodup := pm.symm.nodup ok.nodup
    refine ⟨_, rfl, d, t, rfl, b5.d, b5.R, ok, b5.tabs, fun H6 E6 ts zs e6 hE60 hE6 pmz soz prz lz => ?_⟩
    refine ⟨by show 2 ≤ sizeLine; decide, fun tp htp => ?_⟩
    have e7 : Ext Ps H5 (upd H6 tp (.tup [.ref NS, .ref E6])) := e6.trans (.new htp)
    have htp7 : upd H6 tp (.tup [.ref NS, .ref E6]) tp = some (.tup [.ref NS, .ref E6]) := upd_same
    have s67 : Same H6 (upd H6 tp (.tup [.ref NS, .ref E6])) := snew htp
    generalize upd H6 tp (.tup [.ref NS, .ref E6]) = H7 at e7 htp7 s67
    refine ⟨tp, _, rfl, .inl (.inl htp7), rfl, _, _, rfl, _, _, rfl, rfl, ?_⟩
    have hE7 := s67 _ _ hE6
    have prz7 := prz.keep fun b xs q => s67 _ _ q
    have b7 := b5.ext e7
    have hNS7 := e7.get b5.tabs hNS5 fun _ z => HO.noConfusion z
    have hP7 := hP5.extw e7 b5.tabs
    have cnt := edgeL_count ok pmz
    have tsl : ts.length + 1 = t.length := by rw [prz.len]; exact cnt
    have tK : (ts.map V.ref).length = ts.length := List.length_map _
    refine ⟨_, rfl, E6, _, rfl, .inl (.inl (.inl hE7)), _, rfl, NS, _, rfl, .inl (.inl (.inl hNS7)), _, _, rfl, rfl, rfl, _, rfl, iteNS (by rw [tK, yK]; congr 1; omega) ?_⟩
    -- without the pot
    have bW := b7.wo hP7
    have NSp : NS ≠ p := hP7.ne' hNS7 names_ne_pot
    have e57 := e5.trans e7
    have eW := e57.wo hp0 hP7
    have hNSW : A8.wo p H7 NS = some (.lst (ys.map V.str)) := by rw [wo_ne NSp]; exact hNS7
    have Ep : E6 ≠ p := hP7.ne' hE7 fun x y z q => by
      injection q with q
      cases ts with
      | nil => cases q
      | cons _ _ => cases q
    have hEW : A8.wo p H7 E6 = some (.lst (ts.map V.ref)) := by rw [wo_ne Ep]; exact hE7
    have prW : PairsAt (A8.wo p H7) ts (edgeL t zs) := prz7.keep fun b xs q => by
      rw [wo_ne (hP7.ne' q fun _ _ _ z => HO.noConfusion z)]
      exact q
    refine ⟨6, rfl, by decide, by decide, ?_⟩
    refine for_range (lo := 0) (n := 6) (fun j σ' G => ∃ w6 w7 w8 w9 w11, σ' = [some (.ref a), some (.int (0 + (i : Int))), some (.ref p), some (.ref d), some (.ref NS), some (.ref E6), w6, w7, w8, w9, none, w11, w12, w13, w14, none] ∧ Ext Ps (A8.wo p H7) G ∧ PotAt G p (301 + 4 * j))
      ⟨_, _, _, _, _, rfl, Ext.same wo_same, hP7⟩ ?_ ?_
    · rintro j σ' G0 hj ⟨w6, w7, w8, w9, w11, rfl, E0, hp0'⟩
      -- three nodes
      refine ⟨3, rfl, by decide, by decide, fun D hD => ?_⟩
      have Dp : D ≠ p := hp0'.ne hD
      have D0 : A8.wo p H7 D = none := E0.none hD bW.tabs
      have Dn := notPs bW.tabs D0
      refine lc_range (lo := 0) (n := 3) (fun k G => ∃ ms : List Row, ms.length = k ∧ (∀ r ∈ ms, r ∈ t) ∧ Ext Ps (A8.wo p H7) G ∧ PotAt G p (301 + 4 * j + k) ∧ G D = some (.lst (ms.map fun r => V.str r.1)))
        ⟨[], rfl, fun r hr => absurd hr List.not_mem_nil, E0.trans (.new hD), hp0'.upd (Ne.symm Dp), upd_same⟩ ?_ ?_
      · rintro k G hk ⟨ms, ml, mt, EG, hpG, hDG⟩
        have hNSG := EG.get bW.tabs hNSW fun _ z => HO.noConfusion z
        refine ⟨rfl, _, rfl, _, rfl, _, rfl, NS, _, rfl, .inl (.inl (.inl hNSG)), p, _, _, rfl, hpG, by omega, by rw [yK]; omega, by rw [yK]; omega, fun G1 j1 hp1 only1 j10 j11 => ?_⟩
        rw [yK] at j11
        obtain ⟨z1, hz1, mz1⟩ := atI_str (xs := ys) j10 (by omega)
        obtain ⟨v, hv, ev⟩ := List.mem_map.mp (pm.subset mz1)
        subst ev
        refine ⟨NS, _, _, _, rfl, rfl, .inl (.inl ((only1 NS NSp).trans hNSG)), hz1, _, (only1 D Dp).trans hDG, ?_, ms ++ [v], ?_, fun r hr => ?_, (EG.kpw wo_p hpG (Kp.of only1)).put D0 Dn, hp1.upd (Ne.symm Dp), ?_⟩
        · rw [List.length_map, ml, sizeLine_eq]
          omega
        · rw [List.length_append, ml]
          rfl
        · rcases List.mem_append.mp hr with q | q
          · exact mt r q
          · rw [List.mem_singleton.mp q]
            exact hv
        · rw [upd_same, List.map_append]
          rfl
      rintro G1 ⟨ms, ml, mt, E1, hp1, hD1⟩
      obtain ⟨v, x, u, rfl⟩ : ∃ v x u, ms = [v, x, u] := by
        match ms, ml with
        | [v, x, u], _ => exact ⟨v, x, u, rfl⟩
      have hv := mt v (by simp)
      have hx := mt x (by simp)
      have hu := mt u (by simp)
      refine ⟨D, _, rfl, .inl (.inl hD1), rfl, _, _, rfl, _, _, rfl, _, _, rfl, rfl, ?_⟩
      have bG1 := bW.ext E1
      refine ⟨_, rfl, _, rfl, _, rfl, d, t, v, x, rfl, bG1.d, bG1.R, ok, hv, hx, bG1.tabs, fun G2 e2' => ⟨true, rfl, iteF ?_⟩⟩
      have bG2 := bG1.ext e2'
      refine ⟨_, rfl, _, rfl, _, rfl, _, rfl, d, t, v, x, u, rfl, bG2.d, bG2.R, ok, hv, hx, hu, bG2.tabs, fun G3 e3' => ⟨true, rfl, iteF ?_⟩⟩
      have E3 := E1.trans (e2'.trans e3')
      have hp3 := hp1.extw (e2'.trans e3') bG1.tabs
      have hE3 := E3.get bW.tabs hEW fun _ z => HO.noConfusion z
      -- some edges
      refine ⟨_, rfl, _, rfl, E6, _, rfl, .inl (.inl hE3), fun S1 hS1 => ?_⟩
      obtain ⟨x1, ex1⟩ : ∃ x1, x1 = cutV (ts.map V.ref) none (some 1) := ⟨_, rfl⟩
      rw [← ex1]
      have m1 : ∀ y ∈ x1, y ∈ ts.map V.ref := fun y hy => mem_cutV (by rw [← ex1]; exact hy)
      have c1 : x1.length ≤ 40 := by rw [ex1]; exact Nat.le_trans (cutV_length _ _ _) (by rw [tK]; omega)
      have E4 := E3.trans (.new (Ps := Ps) (o := .lst x1) hS1)
      have hp4 := hp3.upd (o := .lst x1) (Ne.symm (hp3.ne hS1))
      have hS14 : upd G3 S1 (.lst x1) S1 = some (.lst x1) := upd_same
      generalize upd G3 S1 (.lst x1) = G4 at E4 hp4 hS14
      have hE4 := E4.get bW.tabs hEW fun _ z => HO.noConfusion z
      refine ⟨_, rfl, _, rfl, _, rfl, E6, _, rfl, .inl (.inl hE4), fun S2 hS2 => ?_⟩
      obtain ⟨x2, ex2⟩ : ∃ x2, x2 = cutV (ts.map V.ref) (some (-1)) none := ⟨_, rfl⟩
      rw [← ex2]
      have m2 : ∀ y ∈ x2, y ∈ ts.map V.ref := fun y hy => mem_cutV (by rw [← ex2]; exact hy)
      have c2 : x2.length ≤ 40 := by rw [ex2]; exact Nat.le_trans (cutV_length _ _ _) (by rw [tK]; omega)
      have E5 := E4.trans (.new (Ps := Ps) (o := .lst x2) hS2)
      have hp5 := hp4.upd (o := .lst x2) (Ne.symm (hp4.ne hS2))
      have hS25 : upd G4 S2 (.lst x2) S2 = some (.lst x2) := upd_same
      have hS15 : upd G4 S2 (.lst x2) S1 = some (.lst x1) := by rw [upd_ne (ne_of_none hS14 hS2)]; exact hS14
      generalize upd G4 S2 (.lst x2) = G5 at E5 hp5 hS25 hS15
      refine ⟨S1, S2, _, _, rfl, rfl, hS15, hS25, by rw [sizeLine_eq]; omega, fun S3 hS3 => ?_⟩
      have E6' := E5.trans (.new (Ps := Ps) (o := .lst (x1 ++ x2)) hS3)
      have S3p := hp5.ne hS3
      have hp6 := hp5.upd (o := .lst (x1 ++ x2)) (Ne.symm S3p)
      have hS36 : upd G5 S3 (.lst (x1 ++ x2)) S3 = some (.lst (x1 ++ x2)) := upd_same
      generalize upd G5 S3 (.lst (x1 ++ x2)) = G6 at E6' hp6 hS36
      have hNS6 := E6'.get bW.tabs hNSW fun _ z => HO.noConfusion z
      have hE6' := E6'.get bW.tabs hEW fun _ z => HO.noConfusion z
      refine ⟨_, rfl, _, rfl, _, rfl, NS, _, rfl, .inl (.inl (.inl hNS6)), p, _, _, rfl, hp6, by omega, by rw [yK]; omega, by rw [yK]; omega, fun G7 j7 hp7 only7 j70 j71 => ?_⟩
      have E7 := E6'.kpw wo_p hp6 (Kp.of only7)
      have hE7' := E7.get bW.tabs hEW fun _ z => HO.noConfusion z
      have hS37 : G7 S3 = some (.lst (x1 ++ x2)) := (only7 S3 S3p).trans hS36
      refine ⟨_, rfl, E6, _, rfl, .inl (.inl hE7'), fun S4 hS4 => ?_⟩
      obtain ⟨x4, ex4⟩ : ∃ x4, x4 = cutV (ts.map V.ref) (some j7) none := ⟨_, rfl⟩
      rw [← ex4]
      have m4 : ∀ y ∈ x4, y ∈ ts.map V.ref := fun y hy => mem_cutV (by rw [← ex4]; exact hy)
      have c4 : x4.length ≤ 40 := by rw [ex4]; exact Nat.le_trans (cutV_length _ _ _) (by rw [tK]; omega)
      have E8 := E7.trans (.new (Ps := Ps) (o := .lst x4) hS4)
      have hp8 := hp7.upd (o := .lst x4) (Ne.symm (hp7.ne hS4))
      have hS48 : upd G7 S4 (.lst x4) S4 = some (.lst x4) := upd_same
      have hS38 : upd G7 S4 (.lst x4) S3 = some (.lst (x1 ++ x2)) := by rw [upd_ne (ne_of_none hS37 hS4)]; exact hS37
      generalize upd G7 S4 (.lst x4) = G8 at E8 hp8 hS48 hS38
      refine ⟨_, rfl, S4, _, rfl, .inl (.inl hS48), fun S5 hS5 => ?_⟩
      obtain ⟨x5, ex5⟩ : ∃ x5, x5 = cutV x4 none (some 1) := ⟨_, rfl⟩
      rw [← ex5]
      have m5 : ∀ y ∈ x5, y ∈ ts.map V.ref := fun y hy => m4 y (mem_cutV (by rw [← ex5]; exact hy))
      have c5 : x5.length ≤ 40 := by rw [ex5]; exact Nat.le_trans (cutV_length _ _ _) c4
      have E9 := E8.trans (.new (Ps := Ps) (o := .lst x5) hS5)
      have hp9 := hp8.upd (o := .lst x5) (Ne.symm (hp8.ne hS5))
      have hS59 : upd G8 S5 (.lst x5) S5 = some (.lst x5) := upd_same
      have hS39 : upd G8 S5 (.lst x5) S3 = some (.lst (x1 ++ x2)) := by rw [upd_ne (ne_of_none hS38 hS5)]; exact hS38
      generalize upd G8 S5 (.lst x5) = G9 at E9 hp9 hS59 hS39
      refine ⟨S3, S5, _, _, rfl, rfl, hS39, hS59, by rw [List.length_append, sizeLine_eq]; omega, fun S6 hS6 => ?_⟩
      have EA := E9.trans (.new (Ps := Ps) (o := .lst (x1 ++ x2 ++ x5)) hS6)
      have hpA := hp9.upd (o := .lst (x1 ++ x2 ++ x5)) (Ne.symm (hp9.ne hS6))
      have hSA : upd G9 S6 (.lst (x1 ++ x2 ++ x5)) S6 = some (.lst (x1 ++ x2 ++ x5)) := upd_same
      generalize upd G9 S6 (.lst (x1 ++ x2 ++ x5)) = GA at EA hpA hSA
      have mA : ∀ y ∈ x1 ++ x2 ++ x5, y ∈ ts.map V.ref := fun y hy => by
        rcases List.mem_append.mp hy with q | q
        · rcases List.mem_append.mp q with q | q
          · exact m1 y q
          · exact m2 y q
        · exact m5 y q
      have bA := bW.ext EA
      have prA := prW.keep fun b xs q => EA.get bW.tabs q fun _ z => HO.noConfusion z
      refine ⟨S6, rfl, ⟨_, .inl (.inl hSA)⟩, ?_⟩
      refine for_list (K := K) (xs := x1 ++ x2 ++ x5) (fun k σ' G => ∃ w11, σ' = [some (.ref a), some (.int (0 + (i : Int))), some (.ref p), some (.ref d), some (.ref NS), some (.ref E6), some (.int (0 + (j : Int))), some (.str v.1), some (.str x.1), some (.str u.1), none, w11, w12, w13, w14, none] ∧ Ext Ps GA G)
        ⟨_, rfl, .refl⟩ (fun k σ' G _ ⟨_, _, h⟩ => .inl (.inl (h.get bA.tabs hSA fun _ z => HO.noConfusion z))) ?_ ?_
      · rintro k y σ' G hy ⟨w11, rfl, EG⟩
        obtain ⟨b, hb, eb⟩ := List.mem_map.mp (mA y (List.mem_of_getElem? hy))
        subst eb
        obtain ⟨l, ll, el⟩ := List.mem_iff_getElem.mp hb
        obtain ⟨qq, hqq, ha⟩ := paired_at prA (show ts[l]? = some b by rw [List.getElem?_eq_getElem ll, el])
        have nb := ((mem_edgeL ok (ys := zs) fun y => pmz.mem_iff).mp (show (qq.1, qq.2) ∈ edgeL t zs from List.mem_of_getElem? hqq)).1
        have bG := bA.ext EG
        refine ⟨_, rfl, _, rfl, _, rfl, _, rfl, d, b, t, v, x, qq.1, qq.2, rfl, bG.d, bG.R, ok, hv, hx, EG.get bA.tabs ha fun _ z => HO.noConfusion z, nb, bG.tabs, fun G' e' => ⟨true, rfl, iteF ?_⟩⟩
        exact ⟨_, rfl, EG.trans e'⟩
      · rintro σ' G ⟨w11, rfl, EG⟩
        exact ⟨_, _, _, _, _, rfl, EA.trans EG, (hpA.extw EG bA.tabs).mono (by omega)⟩
    · rintro σ' G0 ⟨w6, w7, w8, w9, w11, rfl, E0, hp0'⟩
      have hNS0 := E0.get bW.tabs hNSW fun _ z => HO.noConfusion z
      refine ⟨_, rfl, _, rfl, _, rfl, NS, _, rfl, .inl (.inl (.inl hNS0)), p, _, _, rfl, hp0', by omega, by rw [yK]; omega, by rw [yK]; omega, fun G1 j1 hp1 only1 j10 j11 => ?_⟩
      rw [yK] at j11
      obtain ⟨z1, hz1, mz1⟩ := atI_str (xs := ys) j10 (by omega)
      obtain ⟨v, hv, ev⟩ := List.mem_map.mp (pm.subset mz1)
      subst ev
      have E1 := E0.kpw wo_p hp0' (Kp.of only1)
      have hNS1 := E1.get bW.tabs hNSW fun _ z => HO.noConfusion z
      have b1 := bW.ext E1
      refine ⟨NS, _, _, _, rfl, rfl, .inl (.inl hNS1), hz1, ?_⟩
      obtain ⟨g, g1, g2, g3, g4⟩ := dirs ok hv
      -- the directions
      refine ⟨_, rfl, NS, rfl, ⟨_, .inl (.inl hNS1)⟩, fun D hD => ?_⟩
      have ND : NS ≠ D := ne_of_none hNS1 hD
      have Dn := notPs b1.tabs hD
      refine lc_list (K := K) (xs := ys.map V.str) (fun k G => Ext Ps G1 G ∧ G D = some (.lst (((ys.take k).map g).map V.str))) ⟨.new hD, upd_same⟩ (fun k G _ h => .inl (.inl (h.1.get b1.tabs hNS1 fun _ z => HO.noConfusion z))) ?_ ?_
      · rintro k y G hy ⟨EG, hDG⟩
        rw [List.getElem?_map] at hy
        cases hz : ys[k]? with
        | none => rw [hz] at hy; cases hy
        | some z =>
        rw [hz] at hy
        cases hy
        have kl := at_lt hz
        obtain ⟨r, hr', er⟩ := List.mem_map.mp (pm.subset (List.mem_of_getElem? hz))
        subst er
        have bG := b1.ext EG
        refine ⟨rfl, _, rfl, _, rfl, _, rfl, d, t, v, r, rfl, bG.d, bG.R, ok, hv, hr', bG.tabs, fun G2 z ps e2' S hm => ?_⟩
        have ez := g1 r hr' ps z S hm
        subst ez
        refine ⟨_, e2'.get bG.tabs hDG fun _ z => HO.noConfusion z, ?_, (EG.trans e2').put hD Dn, ?_⟩
        · rw [List.length_map, List.length_map, List.length_take, sizeLine_eq]
          omega
        · rw [upd_same, List.take_succ, hz]
          simp
      rintro G2 ⟨E2, hD2⟩
      rw [List.length_map, List.take_length] at hD2
      have b2 := b1.ext E2
      have hNS2 := E2.get b1.tabs hNS1 fun _ z => HO.noConfusion z
      -- the others
      refine ⟨_, rfl, D, rfl, ⟨_, .inl (.inl hD2)⟩, fun D3 hD3 => ?_⟩
      refine lc_list (K := K) (xs := (ys.map g).map V.str) (fun k G => G = upd G2 D3 (.lst ((((ys.map g).take k).filter fun a => decide (a ≠ v.1)).map V.str))) rfl (fun k G _ e => by
        rw [e]
        exact .inl (.inl (by rw [upd_ne (ne_of_none hD2 hD3)]; exact hD2))) ?_ ?_
      · rintro k y G hy rfl
        rw [List.getElem?_map] at hy
        cases hz : (ys.map g)[k]? with
        | none => rw [hz] at hy; cases hy
        | some z =>
        rw [hz] at hy
        cases hy
        have kl := at_lt hz
        rw [List.length_map] at kl
        have tk : (ys.map g).take (k + 1) = (ys.map g).take k ++ [z] := by rw [List.take_succ, hz]; rfl
        refine ⟨rfl, _, rfl, _, rfl, rfl, _, rfl, ite2 (fun w => ?_) fun w => ?_⟩
        · have nz : z ≠ v.1 := fun e => by
            rw [decide_eq_true (congrArg V.str e)] at w
            cases w
          refine ⟨_, rfl, _, upd_same, ?_, ?_⟩
          · have := List.length_filter_le (fun a => decide (a ≠ v.1)) ((ys.map g).take k)
            rw [List.length_take] at this
            rw [List.length_map, sizeLine_eq]
            omega
          · rw [upd_upd, tk, List.filter_append, List.map_append, flt_pos nz]
            rfl
        · have ez : z = v.1 := Classical.byContradiction fun n => w (by
            rw [decide_eq_false (fun e => n (V.str.inj e))]
            rfl)
          show _ = _
          rw [tk, List.filter_append, flt_neg ez, List.append_nil]
      rintro G rfl
      rw [List.length_map, List.take_length]
      have E3 : Ext Ps G2 (upd G2 D3 (.lst (((ys.map g).filter fun a => decide (a ≠ v.1)).map V.str))) := .new hD3
      have hD33 : upd G2 D3 (.lst (((ys.map g).filter fun a => decide (a ≠ v.1)).map V.str)) D3 = some (.lst (((ys.map g).filter fun a => decide (a ≠ v.1)).map V.str)) := upd_same
      generalize upd G2 D3 (.lst (((ys.map g).filter fun a => decide (a ≠ v.1)).map V.str)) = G3 at E3 hD33
      have b3 := b2.ext E3
      have hNS3 := E3.get b2.tabs hNS2 fun _ z => HO.noConfusion z
      have inT : ∀ a ∈ ys, ∃ r ∈ t, r.1 = a := fun a ha => by
        obtain ⟨r, hr, e⟩ := List.mem_map.mp (pm.subset ha)
        exact ⟨r, hr, e⟩
      have vin : v.1 ∈ ys := pm.symm.subset (List.mem_map.mpr ⟨v, hv, rfl⟩)
      have gv : ∀ a ∈ ys, g a = v.1 ↔ a = v.1 := fun a ha => by
        obtain ⟨r, hr, e⟩ := inT a ha
        subst e
        constructor
        · intro h
          exact Classical.byContradiction fun n => ok.self v hv (h ▸ g3 r hr n)
        · intro h
          rw [h, g2]
      have ol := others_len ynd vin gv
      refine ⟨_, rfl, D3, _, rfl, .inl (.inl (.inl hD33)), _, rfl, NS, _, rfl, .inl (.inl (.inl hNS3)), _, _, rfl, rfl, rfl, _, rfl, iteNS (by rw [List.length_map, List.length_map]; congr 1; omega) ?_⟩
      refine ⟨_, rfl, D3, _, rfl, .inl (.inl hD33), by omega, fun us S so nd mem hS => ?_⟩
      have E4 : Ext Ps G3 (upd G3 S (.lst (us.map V.str))) := .new hS
      have hS4 : upd G3 S (.lst (us.map V.str)) S = some (.lst (us.map V.str)) := upd_same
      generalize upd G3 S (.lst (us.map V.str)) = G4 at E4 hS4
      have b4 := b3.ext E4
      have asv := ok.asc v hv
      have eus : us = v.2.2 := sorted_eq so nd asv.1 asv.2 fun k => by
        rw [mem, List.mem_filter, List.mem_map, decide_eq_true_eq]
        constructor
        · rintro ⟨⟨b, hb, e⟩, n⟩
          obtain ⟨r, hr, er⟩ := inT b hb
          subst er
          rw [← e]
          exact g3 r hr fun q => n (e ▸ (gv r.1 hb).mpr q)
        · intro h
          obtain ⟨r, hr, er⟩ := ok.nbs v hv k h
          refine ⟨⟨k, pm.symm.subset (List.mem_map.mpr ⟨r, hr, er⟩), g4 k h⟩, fun q => ok.self v hv (q ▸ h)⟩
      subst eus
      have T4 : TreeAt G4 d t := ⟨.inl b4.d, b4.R⟩
      have sh := shaped_strs (xs := v.2.2) fun y hy => by
        obtain ⟨r, hr, e⟩ := ok.nbs v hv y hy
        exact e ▸ (ok.names r hr).asc
      refine ⟨_, rfl, _, rfl, d, _, rfl, T4.get ok hv, _, _, .lst (.inl (.inl hS4)) (dpAll_strs _), .lst (.inl (.inl (b4.R v hv))) (dpAll_strs _), sh, sh, false, ?_, iteF ?_⟩
      · show V.bl (!PyData.eqvAll (v.2.2.map PyData.str) (v.2.2.map PyData.str)) = V.bl false
        rw [eqvAll_strs]
        rfl
      exact ⟨_, _, _, _, _, _, _, _, _, _, _, _, _, rfl, jB.ext (eW.trans (E1.trans (E2.trans (E3.trans E4))))⟩
  · rintro σ' H' ⟨w1, w2, w3, w4, w5, w6, w7, w8, w9, w11, w12, w13, w14, rfl, j⟩
    exact hQ _
end
end A8
set_option Elab.async false
set_option linter.all false
set_option maxRecDepth 100000
set_option maxHeartbeats 0
namespace A8
open PySem PySem.Spec PyProof.Rows L2 AL
def topR (i : Nat) : Stmt := PySem.Challenge.pw_asklines_k05_whole_paths_and_sides.main.body.getD i (.Pass ⟨0, 0, 0, 0⟩)
def dd (i : Nat) (x : Str) : He.DefD := ⟨(x, none), x, x, defArgs (topR i), defBody (topR i), defScope (topR i), [], []⟩
def fnL : List He.DefD := [dd 7 "is_name", dd 8 "is_tree", dd 9 "_has_proper_list", dd 10 "_is_one_piece_without_cycles", dd 11 "is_node", dd 12 "check_tree", dd 13 "check_node", dd 14 "steps_to", dd 15 "follow", dd 16 "edges_of", dd 17 "path_between", dd 18 "direction", dd 20 "_law_source", dd 21 "_law_pick", dd 22 "_law_names", dd 23 "_law_tree", dd 24 "_law_path_right", dd 25 "_law_middle_right", dd 26 "_law_edge_right", dd 27 "law"]
def faL : List He.Fa := [.glo "is_name", .glo "is_tree", .glo "_has_proper_list", .glo "_is_one_piece_without_cycles", .glo "is_node", .glo "check_tree", .glo "check_node", .glo "steps_to", .glo "follow", .glo "edges_of", .glo "path_between", .glo "direction", .glo "_law_source", .glo "_law_pick", .glo "_law_names", .glo "_law_tree", .glo "_law_path_right", .glo "_law_middle_right", .glo "_law_edge_right", .glo "law", .free "all", .free "dict", .free "isinstance", .free "len", .free "list", .free "max", .free "min", .free "range", .free "set", .free "sorted", .free "str", .free "sum", .free "zip", .int "MOST_NODES" 40, .int "MOST_LETTERS" 8]
def tfL : List He.Defn := [("is_name", none), ("is_tree", none), ("_has_proper_list", none)]
abbrev RR : PySem.W.OpenRow := PySem.W.OpenLaw.row PySem.Challenge.rw_asklines_k05_whole_paths_and_sides
abbrev hk : PySem.W.Hook := hookG 4 faL fnL [] tfL
def obL (s : PySem.W.SharedT) : AlG := obsG 4 faL fnL [] tfL (HandSHeadRun.getT s)
theorem ob_eq (s : PySem.W.SharedT) : obL s = hk.obs s.abs := obsG_eq (HandSHeadRun.getT_eq s)
def looseL : List Str := ["AskError", "NoTree", "NoNode", "MOST_NODES", "MOST_LETTERS", "is_name", "is_tree", "_has_proper_list", "_is_one_piece_without_cycles", "is_node", "check_tree", "check_node", "steps_to", "follow", "edges_of", "path_between", "direction", "_law_source", "_law_pick", "_law_names", "_law_tree", "_law_path_right", "_law_middle_right", "_law_edge_right"]
theorem run (w : World) : HandSHeadRun.RunEq RR (PySem.W.view RR.prog [27]) hk obL 4000 looseL w := by
  intro os
  kernel_rfl
end A8
set_option Elab.async false
set_option linter.all false
set_option maxRecDepth 100000
set_option maxHeartbeats 4000000
namespace A8
open PySem PySem.Spec PyProof.Rows L2 AL
open GxR (TabB TabG Tabbed)
section
variable {P : Program} {w : World} {K : PySem.W.Frag} {h base : Heap} {mg : Str → Option Value}
def csL (K : PySem.W.Frag) : List (Addr × Addr) := tfL.map (He.cT K)
def psL (K : PySem.W.Frag) : List Addr := (csL K).map (·.2)
/-- a def by its name and promise -/
theorem cal_of {k : Nat} {sp : Sp} {i : Nat} {x : Str} {fd : FuncData} {ps : List Str} (F : FunD K x x (defArgs (topR i)) (defBody (topR i)) (defScope (topR i)) [] [] (He.fAd K (x, none)) fd) (ok : FnOk P w K mg base CX0 k (He.fAd K (x, none)) fd ps sp)
    (hm : mg x = some (.ref (He.fAd K (x, none)))) (hb : Binds K fd ps []) : Cal P w K mg base k x sp := ⟨_, fd, ps, ok, hm, F.kp, hb⟩
end
section
variable {P : Program} {w : World} {K : PySem.W.Frag} {h base : Heap} {mg : Str → Option Value}
theorem law_ok (X : K.In h) (G : h.Ns mainGlobals mg) (c : He.SaysD faL fnL K) {fd : FuncData} (F27 : FunD K "law" "law" (defArgs (topR 27)) (defBody (topR 27)) (defScope (topR 27)) [] [] (He.fAd K ("law", none)) fd) (TB : ∀ p ∈ csL K, TabB base mg p.1 p.2) :
    FnG P w K mg base CX0 9 (He.fAd K ("law", none)) fd ["script"] (spLaw K (psL K)) := by
  have g : ∀ (i : Nat) (x : Str), faL[i]? = some (.glo x) → mg x = some (.ref (He.fAd K (x, none))) := fun i x hx => He.glo_ok X G (c.fact i (f := .glo x) hx)
  have e : ∀ x : Str, He.Fa.free x ∈ faL → mg x = none := fun x hx => He.free_ok X G (c.facts hx)
  have g_all := e "all" (by simp [faL])
  have g_dict := e "dict" (by simp [faL])
  have g_isinstance := e "isinstance" (by simp [faL])
  have g_len := e "len" (by simp [faL])
  have g_list := e "list" (by simp [faL])
  have g_max := e "max" (by simp [faL])
  have g_min := e "min" (by simp [faL])
  have g_range := e "range" (by simp [faL])
  have g_set := e "set" (by simp [faL])
  have g_sorted := e "sorted" (by simp [faL])
  have g_str := e "str" (by simp [faL])
  have g_sum := e "sum" (by simp [faL])
  have g_zip := e "zip" (by simp [faL])
  obtain ⟨_, i_MOST_NODES⟩ := He.int_ok X G (x := "MOST_NODES") (i := 40) (c.facts (by simp [faL]))
  obtain ⟨_, i_MOST_LETTERS⟩ := He.int_ok X G (x := "MOST_LETTERS") (i := 8) (c.facts (by simp [faL]))
  obtain ⟨_, F7⟩ := c.def_ 0 (d := dd 7 "is_name") rfl
  obtain ⟨_, F8⟩ := c.def_ 1 (d := dd 8 "is_tree") rfl
  obtain ⟨_, F9⟩ := c.def_ 2 (d := dd 9 "_has_proper_list") rfl
  obtain ⟨_, F10⟩ := c.def_ 3 (d := dd 10 "_is_one_piece_without_cycles") rfl
  obtain ⟨_, F11⟩ := c.def_ 4 (d := dd 11 "is_node") rfl
  obtain ⟨_, F12⟩ := c.def_ 5 (d := dd 12 "check_tree") rfl
  obtain ⟨_, F13⟩ := c.def_ 6 (d := dd 13 "check_node") rfl
  obtain ⟨_, F14⟩ := c.def_ 7 (d := dd 14 "steps_to") rfl
  obtain ⟨_, F15⟩ := c.def_ 8 (d := dd 15 "follow") rfl
  obtain ⟨_, F16⟩ := c.def_ 9 (d := dd 16 "edges_of") rfl
  obtain ⟨_, F17⟩ := c.def_ 10 (d := dd 17 "path_between") rfl
  obtain ⟨_, F18⟩ := c.def_ 11 (d := dd 18 "direction") rfl
  obtain ⟨_, F20⟩ := c.def_ 12 (d := dd 20 "_law_source") rfl
  obtain ⟨_, F21⟩ := c.def_ 13 (d := dd 21 "_law_pick") rfl
  obtain ⟨_, F22⟩ := c.def_ 14 (d := dd 22 "_law_names") rfl
  obtain ⟨_, F23⟩ := c.def_ 15 (d := dd 23 "_law_tree") rfl
  obtain ⟨_, F24⟩ := c.def_ 16 (d := dd 24 "_law_path_right") rfl
  obtain ⟨_, F25⟩ := c.def_ 17 (d := dd 25 "_law_middle_right") rfl
  obtain ⟨_, F26⟩ := c.def_ 18 (d := dd 26 "_law_edge_right") rfl
  have m : ∀ p : He.Defn, p ∈ tfL → He.cT K p ∈ csL K := fun p hp => List.mem_map.mpr ⟨p, hp, rfl⟩
  have m2 : ∀ p : He.Defn, p ∈ tfL → (He.cT K p).2 ∈ psL K := fun p hp => List.mem_map.mpr ⟨_, m p hp, rfl⟩
  have cName := cal_of (i := 7) (x := "is_name") (mg := mg) (base := base) F7 (ok_isName F7 (code_at F7) (TB _ (m ("is_name", none) (by simp [tfL]))) (m2 ("is_name", none) (by simp [tfL])) g_isinstance g_all g_len g_str i_MOST_LETTERS) (g 0 "is_name" rfl) (F7.bindsN fun _ _ _ _ _ _ us hl => match us, hl with | [_], _ => rfl) (P := P) (w := w)
  have cNode := cal_of (i := 11) (x := "is_node") (mg := mg) (base := base) F11 (ok_isNode F11 g_isinstance g_str) (g 4 "is_node" rfl) (F11.bindsN fun _ _ _ _ _ _ us hl => match us, hl with | [_, _], _ => rfl) (P := P) (w := w)
  have cList := cal_of (i := 9) (x := "_has_proper_list") (mg := mg) (base := base) F9 (ok_hasList F9 (code_at F9) (TB _ (m ("_has_proper_list", none) (by simp [tfL]))) (m2 ("_has_proper_list", none) (by simp [tfL])) cNode g_isinstance g_all g_list g_sorted g_set) (g 2 "_has_proper_list" rfl) (F9.bindsN fun _ _ _ _ _ _ us hl => match us, hl with | [_, _], _ => rfl) (P := P) (w := w)
  have cSteps := cal_of (i := 14) (x := "steps_to") (mg := mg) (base := base) F14 (ok_steps F14) (g 7 "steps_to" rfl) (F14.bindsN fun _ _ _ _ _ _ us hl => match us, hl with | [_, _], _ => rfl) (P := P) (w := w)
  have cPiece := cal_of (i := 10) (x := "_is_one_piece_without_cycles") (mg := mg) (base := base) F10 (ok_piece F10 cSteps g_sum g_len g_min) (g 3 "_is_one_piece_without_cycles" rfl) (F10.bindsN fun _ _ _ _ _ _ us hl => match us, hl with | [_], _ => rfl) (P := P) (w := w)
  have cTree := cal_of (i := 8) (x := "is_tree") (mg := mg) (base := base) F8 (ok_isTree F8 (code_at F8) (TB _ (m ("is_tree", none) (by simp [tfL]))) (m2 ("is_tree", none) (by simp [tfL])) cName cList cPiece g_isinstance g_all g_len g_dict i_MOST_NODES) (g 1 "is_tree" rfl) (F8.bindsN fun _ _ _ _ _ _ us hl => match us, hl with | [_], _ => rfl) (P := P) (w := w)
  have cCheck := cal_of (i := 12) (x := "check_tree") (mg := mg) (base := base) F12 (ok_checkTree F12 cTree) (g 5 "check_tree" rfl) (F12.bindsN fun _ _ _ _ _ _ us hl => match us, hl with | [_], _ => rfl) (P := P) (w := w)
  have cCN := cal_of (i := 13) (x := "check_node") (mg := mg) (base := base) F13 (ok_checkNode F13 cNode) (g 6 "check_node" rfl) (F13.bindsN fun _ _ _ _ _ _ us hl => match us, hl with | [_, _], _ => rfl) (P := P) (w := w)
  have cFol := cal_of (i := 15) (x := "follow") (mg := mg) (base := base) F15 (ok_follow F15) (g 8 "follow" rfl) (F15.bindsN fun _ _ _ _ _ _ us hl => match us, hl with | [_, _], _ => rfl) (P := P) (w := w)
  have cEd := cal_of (i := 16) (x := "edges_of") (mg := mg) (base := base) F16 (ok_edges F16 cCheck g_sorted) (g 9 "edges_of" rfl) (F16.bindsN fun _ _ _ _ _ _ us hl => match us, hl with | [_], _ => rfl) (P := P) (w := w)
  have cPB := cal_of (i := 17) (x := "path_between") (mg := mg) (base := base) F17 (ok_path F17 cCheck cCN cSteps cFol) (g 10 "path_between" rfl) (F17.bindsN fun _ _ _ _ _ _ us hl => match us, hl with | [_, _, _], _ => rfl) (P := P) (w := w)
  have cDi := cal_of (i := 18) (x := "direction") (mg := mg) (base := base) F18 (ok_dirn F18 cCheck cCN cSteps) (g 11 "direction" rfl) (F18.bindsN fun _ _ _ _ _ _ us hl => match us, hl with | [_, _, _], _ => rfl) (P := P) (w := w)
  have cSrc := cal_of (i := 20) (x := "_law_source") (mg := mg) (base := base) F20 (ok_src F20 g_len g_max) (g 12 "_law_source" rfl) (F20.bindsN fun _ _ _ _ _ _ us hl => match us, hl with | [_, _], _ => rfl) (P := P) (w := w)
  have cPick := cal_of (i := 21) (x := "_law_pick") (mg := mg) (base := base) F21 (ok_pick F21) (g 13 "_law_pick" rfl) (F21.bindsN fun _ _ _ _ _ _ us hl => match us, hl with | [_, _], _ => rfl) (P := P) (w := w)
  have cNames := cal_of (i := 22) (x := "_law_names") (mg := mg) (base := base) F22 (ok_names F22 cPick g_len g_range) (g 14 "_law_names" rfl) (F22.bindsN fun _ _ _ _ _ _ us hl => match us, hl with | [_, _], _ => rfl) (P := P) (w := w)
  have cDraw := cal_of (i := 23) (x := "_law_tree") (mg := mg) (base := base) F23 (ok_tree F23 cPick cNames g_range g_len g_max g_sorted g_dict) (g 15 "_law_tree" rfl) (F23.bindsN fun _ _ _ _ _ _ us hl => match us, hl with | [_, _], _ => rfl) (P := P) (w := w)
  have cPR := cal_of (i := 24) (x := "_law_path_right") (mg := mg) (base := base) F24 (ok_pathR F24 cPB cDi g_len g_range g_set) (g 16 "_law_path_right" rfl) (F24.bindsN fun _ _ _ _ _ _ us hl => match us, hl with | [_, _, _], _ => rfl) (P := P) (w := w)
  have cMR := cal_of (i := 25) (x := "_law_middle_right") (mg := mg) (base := base) F25 (ok_mid F25 cPB g_len) (g 17 "_law_middle_right" rfl) (F25.bindsN fun _ _ _ _ _ _ us hl => match us, hl with | [_, _, _, _], _ => rfl) (P := P) (w := w)
  have cER := cal_of (i := 26) (x := "_law_edge_right") (mg := mg) (base := base) F26 (ok_edgeR F26 cPB g_len g_zip g_list) (g 18 "_law_edge_right" rfl) (F26.bindsN fun _ _ _ _ _ _ us hl => match us, hl with | [_, _, _, _], _ => rfl) (P := P) (w := w)
  exact ok_law F27 cSrc cPick cDraw cEd cDi cPR cMR cER g_range g_len g_max g_min g_sorted g_set
end
end A8
open PySem PySem.W PySem.Calls PyProof.Rows
theorem PySem.Challenge.cw_asklines_k05_whole_paths_and_sides_holds : PySem.Challenge.rw_asklines_k05_whole_paths_and_sides.Holds := by
  w_on; o_law
  refine HandSHeadRun.head_any (r := A8.RR) (q := view A8.RR.prog [27]) (H := A8.hk) (ob := A8.obL) (M := 4000) (loose := A8.looseL) (d := HandSHeadRun.topDef A8.RR.prog 27) (kwd := []) A8.ob_eq
    (by kernel_rfl) (fun s => by kernel_rfl) A8.run (by kernel_rfl) (by kernel_rfl) (by kernel_rfl) (by rfl) (by first | assumption | decide +kernel) (by decide +kernel) ⟨rfl, rfl, rfl, rfl, rfl, by decide +kernel⟩ ?hw ?hc
  case hw => w_witness2
  case hc =>
    refine AL.walk_ofG (l := PySem.Challenge.rw_asklines_k05_whole_paths_and_sides) (n := 63) (k := 9) (x := "script") rfl (by decide) (by kernel_rfl) ⟨by decide, by decide, by decide⟩ (fun w h Y => Y.sys) ?F
    intro w mg fa h Y G hmg0
    obtain ⟨K, KX, c⟩ := Y.x
    have hmg : mg ("law" : PySem.Str) = some (.ref fa) := by
      have e : (HandSHeadRun.topDef A8.RR.prog 27).name = ("law" : PySem.Str) := by kernel_rfl
      rw [← e]
      exact hmg0
    have efa := hmg.symm.trans (He.glo_ok KX G (c.t.d.fact 19 (f := .glo "law") rfl))
    cases efa
    obtain ⟨fd, F27⟩ := c.t.d.def_ 19 (d := A8.dd 27 "law") rfl
    have b := L2.FunD.bindsA (ps := ["script"]) F27 fun _ _ _ _ _ _ us hl => match us, hl with | [_], _ => rfl
    have each : ∀ p ∈ A8.csL K, ∃ q ∈ A8.tfL, He.cT K q = p := fun p hp => List.mem_map.mp hp
    refine ⟨K, fd, A8.csL K, A8.spLaw K (A8.psL K), KX, ?_⟩
    refine ⟨fun p hp => ?_, fun p hp => ?_, fun p hp => ?_, AL.saysG_nosys c, fun s u => b s [u] rfl, fun H a ns hl _ hT hY hS => ⟨a, ns, rfl, hl, hS, fun p hp => ?_, hY, fun _ => rfl⟩, fun base _ _ TB => A8.law_ok KX G c.t.d F27 TB⟩
    · obtain ⟨q, hq, e⟩ := each p hp
      exact e ▸ c.empty q hq
    · obtain ⟨q, hq, e⟩ := each p hp
      exact e ▸ c.out q hq
    · obtain ⟨q, hq, e⟩ := each p hp
      exact e ▸ PySem.W.codeHd_of_K KX (c.hd q hq)
    · obtain ⟨q, hq, e⟩ := List.mem_map.mp hp
      exact ⟨#[], e ▸ hT q hq, trivial⟩
