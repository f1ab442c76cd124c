import PyProof.Rows.All
import Wide.All
import OpenK.AllK
import Wide.FinOn
import HandS.ForMost
import HandS.AnyAll
import HandS.GenOver
import HandS.GenList
import HandS.Set
import HandS.SetFor
import HandS.Strs
import HandS.SetTxt0
import HandS.More
import HandS.Sort
import PyProof.ReprRoads
import PyProof.ReprLen
import HandS.HeadHook4
import HandS.HeadWalk
import HandS.Head2
import HandS.HeadEnd
import HandS.DictComp
import HandS.Star
import HandS.DeepEq
import HandS.Small
import HandS.SortRule
import HandS.Iter
import KE.KDictZip
import HandS.Words
import HandS.WordsDict
import HandS.IsInst
import HandS.Wide
import HandS.RaiseOp
import PySem.Challenge.RW_asklines_k49_lines_and_logs_written
import HandS.Walk
import HandS.Text
import HandS.FStr
import PyProof.StrLawsTight
import HandS.LawCells
import Lean
import KE.KStateDown
import KE.KNestM
set_option Elab.async false
set_option linter.all false
set_option maxRecDepth 100000
set_option maxHeartbeats 4000000
namespace AL
open PySem PySem.Spec PyProof.Rows L2
open GxR (TabB TabG Tabbed inv_tab sh_eta)

theorem ge2_out (elt t0 i0 t1 i1 : Expr) (scope : Scope) (pos : Pos) (it acc : Value) (env : Env) :
    compTurn (.GeneratorExp elt [⟨t0, i0, [], 0⟩, ⟨t1, i1, [], 0⟩] scope pos) 0 it acc env = (do
      standAt i0.pos
      match ← pyNext it with
      | none => pure (.done .next)
      | some v =>
        letOwnedTupleGo t0 it v
        assign t0 env v
        let x ← eval i1 env
        standAt i1.pos
        let x ← foldedSetIterable i1 env x
        let _ ← runOwn (.compStart (.GeneratorExp elt [⟨t0, i0, [], 0⟩, ⟨t1, i1, [], 0⟩] scope pos) 1 (← holding [x] (pyIter x)) acc env) env
        again (.compLoop (.GeneratorExp elt [⟨t0, i0, [], 0⟩, ⟨t1, i1, [], 0⟩] scope pos) 0 it acc env)) := by rfl
theorem ge2_in (elt t0 i0 t1 i1 : Expr) (scope : Scope) (pos : Pos) (it acc : Value) (env : Env) :
    compTurn (.GeneratorExp elt [⟨t0, i0, [], 0⟩, ⟨t1, i1, [], 0⟩] scope pos) 1 it acc env = (do
      standAt i1.pos
      match ← pyNext it with
      | none => pure (.done .next)
      | some v =>
        letOwnedTupleGo t1 it v
        assign t1 env v
        (do let v ← eval elt env; standAt elt.pos; let _ ← yieldOut env v)
        again (.compLoop (.GeneratorExp elt [⟨t0, i0, [], 0⟩, ⟨t1, i1, [], 0⟩] scope pos) 1 it acc env)) := by rfl
theorem ge1 (elt t0 i0 : Expr) (scope : Scope) (pos : Pos) (it acc : Value) (env : Env) :
    compTurn (.GeneratorExp elt [⟨t0, i0, [], 0⟩] scope pos) 0 it acc env = (do
      standAt i0.pos
      match ← pyNext it with
      | none => pure (.done .next)
      | some v =>
        letOwnedTupleGo t0 it v
        assign t0 env v
        (do let v ← eval elt env; standAt elt.pos; let _ ← yieldOut env v)
        again (.compLoop (.GeneratorExp elt [⟨t0, i0, [], 0⟩] scope pos) 0 it acc env)) := by rfl

/-- the generator sleeps: its consumer touches nothing -/
structure Quietly (s s' : Shared) : Prop where
  heap : s'.heap = s.heap
  os : s'.os = s.os
  bare : AllBare s'.gens
theorem inv_quietly {X : Cx} {pins : List (Addr × Obj)} {σ : L2.St} {H : Hp} {s s' : Shared} (I : Inv X pins σ H s) (q : Quietly s s') : Inv X pins σ H s' := by
  obtain ⟨hh, g, d, t, o⟩ := s'
  obtain ⟨e1, e2, e3⟩ := q
  have e1 : hh = s.heap := e1
  subst e1
  exact ⟨I.ok, (show o = _ from e2).trans I.os, e3, I.base, I.loc, I.cell, I.free, I.freeC, I.pin, I.hok, I.len⟩
theorem quietly_trans {s s' s'' : Shared} (a : Quietly s s') (b : Quietly s' s'') : Quietly s s'' := ⟨b.heap.trans a.heap, b.os.trans a.os, b.bare⟩
theorem quietly_setGen {s : Shared} {g : Nat} {x : GenState} (h : AllBare s.gens) (hx : x.bare = true) : Quietly s (s.setGen g x) := ⟨rfl, rfl, allBare_setGen h hx⟩
theorem setGen_at {s : Shared} {g : Nat} {x : GenState} (h : g < s.gens.size) : (s.setGen g x).gens[g]? = some x := by
  show (s.gens.setIfInBounds g x)[g]? = some x
  rw [Array.getElem?_setIfInBounds_self_of_lt h]

/-- names of a generator expression -/
structure GOk (N : List Str) (sc scope : Scope) (own : List (Str × Nat)) : Prop where
  blk : BlkOk N sc scope own
  co : scope.isCoroutine = false
  cell : ∀ y ∈ scope.names, y.2 ≠ .cell
  dot : scope.names.lookup (".0" : Str) = some NameKind.local
theorem gOk_by {N : List Str} {sc scope : Scope} {own : List (Str × Nat)} (h : blkC N sc scope own = true) (h2 : scope.isCoroutine = false) (h3 : (scope.names.all fun y => match y.2 with | .cell => false | _ => true) = true)
    (h4 : scope.names.lookup (".0" : Str) = some NameKind.local) : GOk N sc scope own :=
  ⟨blkOk_by h, h2, fun y hy e => by
    have q := List.all_eq_true.mp h3 y hy
    rw [e] at q
    exact Bool.noConfusion q, h4⟩

/-- the context of a generator expression's frame: made at s, its iterator's objects fp, its generator pn -/
abbrev gcx (X : Cx) (s : Shared) (H : Hp) (cenv : Env) (fp : List Addr) (A : Around) (pn : List (Addr × Obj)) : Cx :=
  { X with s_0 := s, H_0 := H, env := cenv, outer := X.stack, stack := cenv :: X.stack, ex := fp, fn := fun _ => false, pn := pn, A := A, xe := fun _ _ => False }
section
variable {X : Cx} {pins : List (Addr × Obj)} {σ : L2.St} {H : Hp} {s : Shared}

theorem gen_start {scope : Scope} {own : List (Str × Nat)} {fp : List Addr} {code : Value} {A : Around} {s2 : Shared} {m : Str → Option Value} {pn : List (Addr × Obj)} (I : Inv X pins σ H s) (ok : GOk X.N X.env.scope scope own) (hN : X.N.Nodup)
    (hfp : ∀ b ∈ fp, FpOk X pins H b ∧ b < s.heap.objs.size) (hA : A.handled = none)
    (hAf : A.frames = some (genEnv scope (cloFrom X.env.cells scope.names []) s.heap.objs.size code builtinsNs X.env :: X.stack))
    (kp : ∀ b o, s.heap.get? b = some o → s2.heap.get? b = some o) (hn : s2.heap.Ns s.heap.objs.size m) (hos : s2.os = s.os) (hb : AllBare s2.gens)
    (hpn : ∀ p ∈ pn, s2.heap.get? p.1 = some p.2 ∧ s.heap.objs.size < p.1 ∧ ∀ v, p.2.data ≠ .cell v) :
    Inv (gcx X s H (genEnv scope (cloFrom X.env.cells scope.names []) s.heap.objs.size code builtinsNs X.env) fp A pn) [] (wipe σ (own.map (·.2))) H s2 := by
  have hfree : ∀ y ∈ scope.names, y.2 = .free → ∃ c, X.env.cells.lookup y.1 = some c := fun y hy e => by
    rcases ok.blk.free y hy e with k | k
    · exact I.ok.has _ (.inl k)
    · exact I.ok.has _ (.inr k)
  generalize hcenv : genEnv scope (cloFrom X.env.cells scope.names []) s.heap.objs.size code builtinsNs X.env = cenv at hAf ⊢
  have hL : cenv.locals = s.heap.objs.size := by rw [← hcenv]; rfl
  have hcl : cenv.cells = cloFrom X.env.cells scope.names [] := by rw [← hcenv]; rfl
  have hsc : cenv.scope = scope := by rw [← hcenv]; rfl
  have hfr : cenv.frame = some s.heap.objs.size := by rw [← hcenv]; rfl
  have hgl : cenv.globals = X.env.globals := by rw [← hcenv]; rfl
  have hbl : cenv.builtins = builtinsNs := by rw [← hcenv]; rfl
  have cm : ∀ {y c}, (y, c) ∈ cloFrom X.env.cells scope.names [] → X.env.cells.lookup y = some c ∧ c < s.heap.objs.size := fun {y c} hm => by
    rcases cloFrom_mem hm with hm | ⟨h1, rfl⟩
    · cases hm
    · obtain ⟨c, hc⟩ := hfree _ h1 rfl
      rw [hc]
      obtain ⟨w, z⟩ := I.cell _ _ hc
      exact ⟨rfl, z.lt⟩
  have mem : ∀ {y c}, cenv.cells.lookup y = some c → X.env.cells.lookup y = some c ∧ c < s.heap.objs.size := fun {y c} e => by
    rw [hcl] at e
    exact cm (PySem.mem_of_lookup e)
  have look : ∀ {y}, scope.names.lookup y = some .free → ∃ c, cenv.cells.lookup y = some c ∧ X.env.cells.lookup y = some c := fun {y} hl => by
    have hy : (y, NameKind.free) ∈ scope.names := PySem.mem_of_lookup hl
    obtain ⟨c', e'⟩ := mem_lookup (cloFrom_has (cells := X.env.cells) (acc := []) hy)
    rw [← hcl] at e'
    exact ⟨c', e', (mem e').1⟩
  have okB : (gcx X s H cenv fp A pn).Ok := by
    refine ⟨I.ok.mod, by show cenv.scope.kind = _; rw [hsc]; exact ok.blk.kind, by show cenv.globals = _; rw [hgl]; exact I.ok.glob, hbl, by show s.heap.objs.size ≤ cenv.locals; rw [hL]; exact Nat.le_refl _,
      fun y z c e1 e2 => I.ok.inj y z c (mem e1).1 (mem e2).1, fun y hy => ?_, fun y c z e => Bool.noConfusion z, fun _ => hA, hAf, .inr ⟨rfl, by rw [hfr, hL]⟩, fun b hb => ⟨?_, fun y c e z => ?_⟩, I.bs, Nat.le_trans I.ok.bsz I.sz, fun b o e hb => ?_, fun b hb z => ?_, I.stack, I.stkFree⟩
    · show ∃ c, cenv.cells.lookup y = some c
      have key : ∀ k, cenv.kindOf y = some k → (k = .cell ∨ k = .free) → ∃ c, cenv.cells.lookup y = some c := fun k hk hk' => by
        unfold Env.kindOf at hk
        rw [hsc] at hk
        rcases hk' with rfl | rfl
        · exact absurd rfl (ok.cell _ (PySem.mem_of_lookup hk))
        · obtain ⟨c, h1, _⟩ := look hk
          exact ⟨c, h1⟩
      rcases hy with hy | hy
      · exact key _ hy (.inl rfl)
      · exact key _ hy (.inr rfl)
    · show b ≠ cenv.locals
      rw [hL]; exact Nat.ne_of_lt (hfp b hb).2
    · exact (hfp b hb).1.2.2.2.2.1 y c (mem (show cenv.cells.lookup y = some c from e)).1 z
    · rcases (hfp b hb).1.2.2.2.1 with z | z
      · exact I.ok.noex b o e z
      · exact absurd (Nat.lt_of_lt_of_le (Heap.lt_size e) (Nat.le_trans I.ok.bsz z)) (Nat.lt_irrefl _)
    · rcases List.mem_cons.mp (I.stkSub b z) with z | z
      · exact (hfp b hb).1.2.1 z
      · exact (hfp b hb).1.2.2.1 z
  refine ⟨okB, hos, hb, Un.kept kp, ⟨m, ?_, fun i y av e1 e2 e3 => ?_⟩, fun y c e => ?_, ?_, fun y c e => ?_, fun p hp => ?_, I.hok.kept kp, by rw [wipe_length]; exact I.len⟩
  · show Heap.Ns _ cenv.locals _
    rw [hL]
    exact hn
  · obtain ⟨e2, hne⟩ := wipe_some e2
    have hfrr : scope.names.lookup y = some .free := by
      have e3 : Vis cenv.scope y := e3
      rw [hsc] at e3
      have no : ∀ k', scope.names.lookup y = some k' → ¬ (k' = .local ∨ k' = .cell) := fun k' e hh => by
        rcases ok.blk.own _ (PySem.mem_of_lookup e) hh with e' | e'
        · obtain ⟨p, hp, hpy⟩ := List.mem_map.mp e'
          have e3 := ok.blk.ix p hp
          have : p.1 = y := hpy
          rw [this] at e3
          exact hne (List.mem_map.mpr ⟨p, hp, nodup_ix hN e3 e1⟩)
        · exact e' (List.mem_of_getElem? e1)
      rcases e3 with e3 | e3 | e3
      · exact absurd (.inl rfl) (no _ e3)
      · exact absurd (.inr rfl) (no _ e3)
      · exact e3
    obtain ⟨m', hn', hl⟩ := I.loc
    have hvis : Vis X.env.scope y := (ok.blk.free _ (PySem.mem_of_lookup hfrr) rfl).elim (fun k => .inr (.inl k)) (fun k => .inr (.inr k))
    obtain ⟨w, r, q⟩ := hl i y av e1 e2 hvis
    refine ⟨w, r, .inr ⟨.inr (by show cenv.scope.names.lookup y = _; rw [hsc]; exact hfrr), ?_⟩⟩
    obtain ⟨c, h1, h2⟩ := look hfrr
    rcases q with ⟨k, _⟩ | ⟨_, c', e', z⟩
    · have k : X.env.scope.names.lookup y = some .local := k
      rcases ok.blk.free _ (PySem.mem_of_lookup hfrr) rfl with k' | k' <;> rw [show X.env.scope.names.lookup y = _ from k'] at k <;> cases k
    · rw [h2] at e'; cases e'
      exact ⟨c, h1, z.keeps kp⟩
  · have e : cenv.cells.lookup y = some c := e
    obtain ⟨w, z⟩ := I.cell y c (mem e).1
    exact ⟨w, z.keeps kp⟩
  · show H cenv.locals = none
    rw [hL]; exact I.hok.fresh (Nat.le_refl _)
  · have e : cenv.cells.lookup y = some c := e
    exact I.freeC y c (mem e).1
  · have hp : p ∈ pn := by
      rcases List.mem_append.mp hp with z | z
      · exact z
      · cases z
    obtain ⟨h1, h2, h3⟩ := hpn p hp
    refine ⟨h1, I.hok.fresh (Nat.le_of_lt h2), ?_, fun z => ?_, h3⟩
    · show p.1 ≠ cenv.locals
      rw [hL]; exact Nat.ne_of_gt h2
    · have z : p.1 ∈ frs X.stack := z
      rcases List.mem_cons.mp (I.stkSub _ z) with e | e
      · rw [e] at h2
        exact absurd (Nat.lt_trans I.lt h2) (Nat.lt_irrefl _)
      · exact I.nofs (Nat.le_of_lt h2) e
end
end AL
set_option Elab.async false
set_option linter.all false
set_option maxRecDepth 100000
set_option maxHeartbeats 4000000
namespace AL
open PySem PySem.Spec PyProof.Rows L2
open GxR (TabB TabG Tabbed inv_tab sh_eta)

/-- at a yield: a truth value; the one that ends the walk (d), or one that lets it go on -/
def GYA (a : Addr) (g : Nat) (d : Bool) (FinF : Shared → Prop) : Protocol := fun n s₀ v s kap =>
  ∃ b, v = .bool b ∧ s.heap.IsGen a g ∧ s.heap.NoLimit ∧ AllBare s.gens ∧ (b = d → FinF s) ∧ (b ≠ d → ∀ s', Quietly s s' → kap (.send .none) s')
abbrev GRA (FinT : Shared → Prop) : GenEnd := fun n s₀ r s₁ => r = .ok .next ∧ FinT s₁
/-- the generator at a, asleep; at most n items are to come -/
def GAt (P : Program) (w : World) (A : Around) (a : Addr) (g : Nat) (d : Bool) (FinT FinF : Shared → Prop) (n : Nat) (s : Shared) : Prop :=
  s.heap.IsGen a g ∧ s.heap.NoLimit ∧ AllBare s.gens ∧ ∃ gs, s.gens[g]? = some gs ∧ ∀ s', Quietly s s' → gs.Goes (model P w) A (GRA FinT) (GYA a g d FinF) n (.send .none) s'

section
variable {P : Program} {w : World} {A : Around} {a : Addr} {g : Nat} {FinT FinF : Shared → Prop}
theorem next_gen {d : Bool} {n : Nat} {s : Shared} {E : Value → Shared → Prop} {Q : Option Value → Shared → Prop} (hh : A.handled = none) (hroom : A.depth < recursionLimit) (h : GAt P w A.in1 a g d FinT FinF n s)
    (hT : ∀ s₁ s', FinT s₁ → AllBare s'.gens → s'.os = s₁.os → (∀ b o, s₁.heap.get? b = some o → s'.heap.get? b = some o) → Q none s')
    (hF : ∀ s₁ s', FinF s₁ → Quietly s₁ s' → Q (some (.bool d)) s')
    (hG : ∀ m s', m < n → GAt P w A.in1 a g d FinT FinF m s' → Q (some (.bool (!d))) s')
    (hTb : ∀ s, FinT s → AllBare s.gens) :
    wpAny (model P w) A (pyNext (.ref a)) Q E s := by
  obtain ⟨hg, hl, hb, gs, hgs, hgo⟩ := h
  have hlt : g < s.gens.size := (Array.getElem?_eq_some_iff.mp hgs).1
  refine GenW.wpAny_gsz (n := g + 1) hlt ?_
  refine wpAny_pyNext_genexpQ (P := fun _ _ s => FinT s) hh hl hroom hg hgs (hgo _ (quietly_setGen hb rfl)) (fun v s₁ gs' hgb hv => ?_) (fun s₁ hp h' hk => ?_)
  · intro hsz
    rw [GenW.setGen_size] at hsz
    obtain ⟨b, rfl, hg1, hl1, hb1, hd, hn⟩ := hv
    by_cases e : b = d
    · subst e
      exact hF s₁ _ (hd rfl) (quietly_setGen hb1 hgb)
    · have e2 : b = !d := by
        cases b <;> cases d <;> first | rfl | exact absurd rfl e
      have hn := hn e
      cases n with
      | zero => exact (hn s₁ ⟨rfl, rfl, hb1⟩).elim
      | succ m =>
        rw [e2]
        exact hG m _ (Nat.lt_succ_self m) ⟨hg1, hl1, allBare_setGen hb1 hgb, gs', setGen_at hsz, fun s' q => hn s' (quietly_trans (quietly_setGen hb1 hgb) q)⟩
  · intro _
    exact hT s₁ _ hp (allBare_setGen (s := s₁) (hTb s₁ hp) rfl) rfl hk

theorem all_gen_loop {R : Result → Shared → Prop} (hh : A.handled = none) (hroom : A.depth < recursionLimit)
    (hT : ∀ s₁ s', FinT s₁ → AllBare s'.gens → s'.os = s₁.os → (∀ b o, s₁.heap.get? b = some o → s'.heap.get? b = some o) → R (.ok (.ret (.bool true))) s')
    (hF : ∀ s₁ s', FinF s₁ → Quietly s₁ s' → R (.ok (.ret (.bool false))) s') (hTb : ∀ s, FinT s → AllBare s.gens) : ∀ (n : Nat) (s : Shared), GAt P w A.in1.in1 a g false FinT FinF n s →
      codeAny (model P w) A (.builtin "all.loop" ⟨[.ref a], []⟩) R s := by
  intro n
  induction n using Nat.strongRecOn with
  | _ n ih =>
    intro s h
    refine codeAny_builtin F.entry_all_loop ?_
    rw [Around.under_plainId F.plain_all_loop _]
    show wpAny _ A.in1 (pyNext (.ref a) >>= _) _ _ s
    refine wpAny_bind (next_gen (A := A.in1) hh hroom h (fun s₁ s' h1 h2 h3 h4 => ?_) (fun s₁ s' h1 h2 => ?_) (fun m s' hm h1 => ?_) hTb)
    · exact wpAny_bind (wpAny_rule (wpAny_pure (hT s₁ s' h1 h2 h3 h4)))
    · refine wpAny_bind (wpAny_holding (wpAny_truthy_bool ?_))
      refine wpAny_bind (wpAny_letGo ?_)
      simp only [Bool.false_eq_true, if_false]
      exact wpAny_bind (wpAny_rule (wpAny_pure (hF s₁ s' h1 h2)))
    · refine wpAny_bind (wpAny_holding (wpAny_truthy_bool ?_))
      refine wpAny_bind (wpAny_letGo ?_)
      simp only [Bool.not_false, if_true]
      exact wpAny_pure ⟨plainId_quiet F.plain_all_loop _, ih m hm s' h1⟩
theorem any_gen_loop {R : Result → Shared → Prop} (hh : A.handled = none) (hroom : A.depth < recursionLimit)
    (hT : ∀ s₁ s', FinT s₁ → AllBare s'.gens → s'.os = s₁.os → (∀ b o, s₁.heap.get? b = some o → s'.heap.get? b = some o) → R (.ok (.ret (.bool false))) s')
    (hF : ∀ s₁ s', FinF s₁ → Quietly s₁ s' → R (.ok (.ret (.bool true))) s') (hTb : ∀ s, FinT s → AllBare s.gens) : ∀ (n : Nat) (s : Shared), GAt P w A.in1.in1 a g true FinT FinF n s →
      codeAny (model P w) A (.builtin "any.loop" ⟨[.ref a], []⟩) R s := by
  intro n
  induction n using Nat.strongRecOn with
  | _ n ih =>
    intro s h
    refine codeAny_builtin F.entry_any_loop ?_
    rw [Around.under_plainId F.plain_any_loop _]
    show wpAny _ A.in1 (pyNext (.ref a) >>= _) _ _ s
    refine wpAny_bind (next_gen (A := A.in1) hh hroom h (fun s₁ s' h1 h2 h3 h4 => ?_) (fun s₁ s' h1 h2 => ?_) (fun m s' hm h1 => ?_) hTb)
    · exact wpAny_bind (wpAny_rule (wpAny_pure (hT s₁ s' h1 h2 h3 h4)))
    · refine wpAny_bind (wpAny_holding (wpAny_truthy_bool ?_))
      refine wpAny_bind (wpAny_letGo ?_)
      simp only [if_true]
      exact wpAny_bind (wpAny_rule (wpAny_pure (hF s₁ s' h1 h2)))
    · refine wpAny_bind (wpAny_holding (wpAny_truthy_bool ?_))
      refine wpAny_bind (wpAny_letGo ?_)
      simp only [Bool.not_true, Bool.false_eq_true, if_false]
      exact wpAny_pure ⟨plainId_quiet F.plain_any_loop _, ih m hm s' h1⟩
theorem call_all_gen {n : Nat} {s : Shared} {Q E : Value → Shared → Prop} (hh : A.handled = none) (hroom : A.depth < recursionLimit) (h : GAt P w A.in1.in1 a g false FinT FinF n s)
    (hT : ∀ s₁ s', FinT s₁ → AllBare s'.gens → s'.os = s₁.os → (∀ b o, s₁.heap.get? b = some o → s'.heap.get? b = some o) → Q (.bool true) s')
    (hF : ∀ s₁ s', FinF s₁ → Quietly s₁ s' → Q (.bool false) s') (hTb : ∀ s, FinT s → AllBare s.gens) :
    wpAny (model P w) A (call (.builtin "all") [.ref a]) Q E s := by
  refine call_function_tree F.kind_all F.plain_all F.entry_all (F.args_all1 _) ?_
  unfold Builtin.«all»
  refine wpAny_bind (m := oneArg "all" _) (wpAny_pure ?_)
  refine wpAny_bind (wpAny_pyIter_gen h.1 ?_)
  exact wpAny_pure ⟨plainId_quiet F.plain_all_loop _, all_gen_loop hh hroom hT hF hTb n s h⟩
theorem call_any_gen {n : Nat} {s : Shared} {Q E : Value → Shared → Prop} (hh : A.handled = none) (hroom : A.depth < recursionLimit) (h : GAt P w A.in1.in1 a g true FinT FinF n s)
    (hT : ∀ s₁ s', FinT s₁ → AllBare s'.gens → s'.os = s₁.os → (∀ b o, s₁.heap.get? b = some o → s'.heap.get? b = some o) → Q (.bool false) s')
    (hF : ∀ s₁ s', FinF s₁ → Quietly s₁ s' → Q (.bool true) s') (hTb : ∀ s, FinT s → AllBare s.gens) :
    wpAny (model P w) A (call (.builtin "any") [.ref a]) Q E s := by
  refine call_function_tree F.kind_any F.plain_any F.entry_any (F.args_any1 _) ?_
  unfold Builtin.«any»
  refine wpAny_bind (m := oneArg "any" _) (wpAny_pure ?_)
  refine wpAny_bind (wpAny_pyIter_gen h.1 ?_)
  exact wpAny_pure ⟨plainId_quiet F.plain_any_loop _, any_gen_loop hh hroom hT hF hTb n s h⟩
end
end AL
set_option Elab.async false
set_option linter.all false
set_option maxRecDepth 100000
set_option maxHeartbeats 4000000
namespace AL
open PySem PySem.Spec PyProof.Rows L2
open GxR (TabB TabG Tabbed inv_tab sh_eta)

/-- one clause: what is walked in the generator's frame -/
structure W1 (K : PySem.W.Frag) (J : It) (g : TG) (te : TE) (σ0 : L2.St) (vs : List Nat) (d : Bool) (QT QF : Hp → Prop) (W : Nat → Nat → Hp → Prop) : Prop where
  turn : ∀ i m H, W i m H → (J.stop i H ∧ QT H) ∨ (J.go i H ∧ ∀ x H', J.yld i H x H' → g x σ0 H' fun σ2 H2 => wipe σ2 vs = σ0 ∧ te σ2 H2 fun y H3 => ∃ b, y = .bl b ∧ (b = d → QF H3) ∧ (b ≠ d → ∃ m', m' < m ∧ W (i + 1) m' H3))

section
variable {X : Cx} {a : Addr} {g0 : Nat} {d : Bool} {FinT FinF : Shared → Prop} {QT QF : Hp → Prop} {s3 : Shared} {H3 : Hp} {ce : Env} {fp : List Addr} {A : Around} {go : Obj}

theorem seg_one {elt tg iter : Expr} {scope : Scope} {pos : Pos} {it : Addr} {tn : Nat → Heap → Prop} {J : It} {g : TG} {te : TE} {σ0 : L2.St} {vs : List Nat} {W : Nat → Nat → Hp → Prop}
    (hgo : ∀ h : Heap, h.get? a = some go → h.IsGen a g0)
    (hXA : ∀ c : Code, c = .compLoop (.GeneratorExp elt [⟨tg, iter, [], 0⟩] scope pos) 0 (.ref it) .none ce → A.over c [] = X.A) (hco : ce.scope.isCoroutine = false)
    (henv : X.env = ce) (hcalm : X.calm = true) (hxe : ∀ e s, ¬ X.xe e s) (hpn : (a, go) ∈ X.pn)
    (hpn2 : ∀ p ∈ X.pn, ∀ b ∈ fp, p.1 ≠ b) (hex : ∀ b ∈ fp, b ∈ X.ex)
    (T : Turn X.prog X.w X.K tg J fp it tn) (hw0 : ∀ vsσ : L2.St, wipe vsσ vs = σ0 → vsσ.length = σ0.length ∧ ∀ (i : Nat) v, σ0[i]? = some (some v) → vsσ[i]? = some (some v))
    (hg : PG X tg g) (he : PE X elt te) (w1 : W1 X.K J g te σ0 vs d QT QF W)
    (hT : ∀ H s, Inv X [] σ0 H s → QT H → FinT s) (hF : ∀ H s, Inv X [] σ0 H s → QF H → FinF s) :
    ∀ (m n i : Nat) (s₀ s : Shared) (H : Hp), m < n → W i m H → Inv X [] σ0 H s → tn i s.heap → (∀ b ∈ fp, H b = none) →
      Seg (model X.prog X.w) A (GRA FinT) (GYA a g0 d FinF) n s₀ (.compLoop (.GeneratorExp elt [⟨tg, iter, [], 0⟩] scope pos) 0 (.ref it) .none ce)
        ((model X.prog X.w).den (.compLoop (.GeneratorExp elt [⟨tg, iter, [], 0⟩] scope pos) 0 (.ref it) .none ce)) [] s := by
  have stat : ∀ {σ' : L2.St} {H' : Hp} {s' : Shared}, Inv X [] σ' H' s' → (∀ b ∈ fp, H' b = none) → ∀ b ∈ fp, FpOk X [] H' b := fun {σ' H' s'} I' hn b hb =>
    ⟨hn b hb, (I'.ok.exf b (hex b hb)).1, I'.ok.exfs b (hex b hb), .inl (hex b hb), fun x c e => (I'.ok.exf b (hex b hb)).2 x c e, fun p hp => by
      rcases List.mem_append.mp hp with z | z
      · exact hpn2 p z b hb
      · cases z⟩
  intro m
  induction m using Nat.strongRecOn with
  | _ m ih =>
    intro n i s₀ s H hmn hW I st hfp
    have hA := hXA _ rfl
    show Seg _ A _ _ _ s₀ _ ((compTurn (.GeneratorExp elt [⟨tg, iter, [], 0⟩] scope pos) 0 (.ref it) .none ce).onRaise (leaving ce)) [] s
    rw [ge1, Sem.onRaise_eq_wrap]
    refine seg_bind_wrap (wpAny_standAt ?_)
    rcases w1.turn i m H hW with ⟨stop, qt⟩ | ⟨go', step⟩
    · refine seg_bind_wrap ?_
      rw [hA]
      refine thn (T.done X rfl rfl rfl hcalm i [] s σ0 H _ I (stat I hfp) st stop) fun r s1 ⟨hr, I1⟩ => ?_
      subst hr
      exact seg_end (.ok .next) ⟨rfl, hT H s1 I1 qt⟩
    · refine seg_bind_wrap ?_
      rw [hA]
      refine thn (T.item X rfl rfl rfl hcalm i [] s σ0 H _ I (stat I hfp) st go') fun r s1 ⟨u, hr, h1⟩ => ?_
      subst hr
      refine seg_bind_wrap ?_
      rw [hA]
      refine wpAny_mono h1 (fun _ s2 hh => ?_) fun _ _ z => z
      obtain ⟨x, H2, I2, r2, y2, st2, n2⟩ := hh
      have I2' := I2.pinned (stat I2 n2) (T.obj _ _ st2)
      refine seg_bind_wrap ?_
      rw [hA]
      have hgr := hg.run _ s2 σ0 H2 x u _ I2' r2 (step x H2 y2)
      rw [henv] at hgr
      refine wpAny_mono hgr (fun _ s4 ⟨σ4, H4, I4, hw4, q4⟩ => ?_) fun e s' z => (hxe e s' z).elim
      have hy : ∀ v, yieldOut ce v = yieldValue v := fun v => by simp only [yieldOut, hco, Bool.false_eq_true, if_false]
      simp only [hy]
      rw [Sem.bind_eq_wrap', Sem.bind_eq_wrap', Sem.wrap_wrap, Sem.wrap_wrap]
      refine seg_wrap ?_
      rw [hA]
      have her := he.run _ s4 σ4 H4 _ I4 q4
      rw [henv] at her
      refine wpAny_mono her (fun yv s5 ⟨y, H5, I5, r5, b, hyb, qd, qn⟩ => ?_) fun e s' z => (hxe e s' z).elim
      subst hyb
      have r5 : yv = .bool b := r5
      subst r5
      have pin' : ∀ q ∈ fp, ∀ o, s2.heap.get? q = some o → s5.heap.get? q = some o ∧ H5 q = none := fun q hb o e =>
        let z := I5.pin (q, o) (List.mem_append_right _ (List.mem_append_right _ (mem_pinsAt hb e)))
        ⟨z.1, z.2.1⟩
      obtain ⟨hl4, hv4⟩ := hw0 σ4 hw4
      have I6 : Inv X [] σ0 H5 s5 := (I5.unpinned (pins := [])).weak hl4.symm fun j v e => hv4 j v e
      have hgen : s5.heap.IsGen a g0 := hgo _ (I6.pin (a, go) (List.mem_append_left _ hpn)).1
      by_cases hbd : b = d
      · cases n with
        | zero => omega
        | succ n => exact seg_at (seg_yield rfl rfl rfl ⟨b, rfl, hgen, I6.nolimit, I6.bare, fun _ => hF H5 s5 I6 (qd hbd), fun z => absurd hbd z⟩)
      · obtain ⟨m', hm', w'⟩ := qn hbd
        cases n with
        | zero => omega
        | succ n =>
          refine seg_at (seg_yield rfl rfl rfl ⟨b, rfl, hgen, I6.nolimit, I6.bare, fun z => absurd z hbd, fun _ s' q => ?_⟩)
          refine seg_again rfl (ih m' hm' n (i + 1) s' s' H5 (by omega) w' (inv_quietly I6 q) ?_ fun q' hb => ?_)
          · rw [q.heap]
            exact T.keep _ _ _ st2 fun q' hb o e => (pin' q' hb o e).1
          · obtain ⟨o, e, _⟩ := T.obj _ _ st2 q' hb
            exact (pin' q' hb o e).2
end
end AL
set_option Elab.async false
set_option linter.all false
set_option maxRecDepth 100000
set_option maxHeartbeats 4000000
namespace AL
open PySem PySem.Spec PyProof.Rows L2
open GxR (TabB TabG Tabbed inv_tab sh_eta)

theorem inv_ext {X : Cx} {pins : List (Addr × Obj)} {σ : L2.St} {H : Hp} {s s' : Shared} (I : Inv X pins σ H s) (ho : s'.os = s.os) (hb : AllBare s'.gens) (k : ∀ b o, s.heap.get? b = some o → s'.heap.get? b = some o) : Inv X pins σ H s' :=
  I.call' (ch := []) ho (Un.kept k) (I.hok.kept k) hb fun b z => by simp at z

/-- the frame's code, over its consumer -/
abbrev gcode (elt : Expr) (cs : List Comprehension) (scope : Scope) (pos : Pos) (it : Addr) (ce : Env) : Code := .compLoop (.GeneratorExp elt cs scope pos) 0 (.ref it) .none ce
theorem gcode_frames {elt : Expr} {cs : List Comprehension} {scope : Scope} {pos : Pos} {it : Addr} {ce : Env} {A : Around} {st : List Env} (h : A.frames = some st) : (A.over (gcode elt cs scope pos it ce) []).frames = some (ce :: st) := by
  show pushEnvs [ce] (pushEnvs [] A.frames) = _
  rw [h]
  rfl
theorem gcode_room {elt : Expr} {cs : List Comprehension} {scope : Scope} {pos : Pos} {it : Addr} {ce : Env} {A : Around} {k : Nat} (r : Room (k + 1) A) : Room k (A.in1.in1.over (gcode elt cs scope pos it ce) []) :=
  ⟨r.hd, by have := r.dp; show A.depth + 0 + 1 + 3 * k + 5 < _; omega, by have := r.un; show A.units + 1 + 1 + 0 + 3 + 16 * k + 200 < _; omega⟩

/-- a start of a generator expression's code -/
theorem seg_start {P : Program} {w : World} {A : Around} {R : GenEnd} {Y : Protocol} {n : Nat} {s₀ s : Shared} {elt tg iter : Expr} {cs : List Comprehension} {scope : Scope} {pos : Pos} {it : Addr} {ce : Env} {K : PySem.W.Frag} {J : It} {fp : List Addr} {tn : Nat → Heap → Prop} (T : Turn P w K tg J fp it tn) (st : tn 0 s.heap)
    (h : Seg (model P w) A R Y n s₀ (.compLoop (.GeneratorExp elt (⟨tg, iter, [], 0⟩ :: cs) scope pos) 0 (.ref it) .none ce) ((model P w).den (.compLoop (.GeneratorExp elt (⟨tg, iter, [], 0⟩ :: cs) scope pos) 0 (.ref it) .none ce)) [] s) :
    Seg (model P w) A R Y n s₀ (.compStart (.GeneratorExp elt (⟨tg, iter, [], 0⟩ :: cs) scope pos) 0 (.ref it) .none ce) ((model P w).den (.compStart (.GeneratorExp elt (⟨tg, iter, [], 0⟩ :: cs) scope pos) 0 (.ref it) .none ce)) [] s := by
  show Seg _ A _ _ _ s₀ _ ((compStart (.GeneratorExp elt (⟨tg, iter, [], 0⟩ :: cs) scope pos) 0 (.ref it) .none ce).onRaise (leaving ce)) [] s
  unfold compStart
  rw [Sem.onRaise_eq_wrap]
  show Seg _ A _ _ _ s₀ _ ((ask >>= _).wrap _ _ _ _) [] s
  refine seg_bind_wrap (wpAny_askSetting ?_)
  split
  · exact seg_again rfl h
  · refine seg_bind_wrap (wpAny_rule ?_)
    show Seg _ A _ _ _ s₀ _ ((standAt iter.pos >>= _).wrap _ _ _ _) [] s
    exact seg_bind_wrap (wpAny_standAt (seg_bind_wrap (T.self _ 0 s _ _ st (seg_again rfl h))))

theorem eval_ge (elt target iter : Expr) (cs : List Comprehension) (scope : Scope) (pos : Pos) (env : Env) (hco : scope.isCoroutine = false) :
    eval (.GeneratorExp elt (⟨target, iter, [], 0⟩ :: cs) scope pos) env = (do
      let x ← eval iter env
      standAt iter.pos
      let x ← genFold iter env x
      let it ← holding [x] (pyIter x)
      enterFrame
      let cl ← closureFor scope env
      let code ← genexprCode env pos (env.qual ++ "<genexpr>") scope
      let bi ← builtinsFor env.globals env.builtins
      let cenv ← newFunctionEnv scope env.globals cl [(".0", it)] (env.qual ++ "<genexpr>.") none code none bi
      newGenerator (.compStart (.GeneratorExp elt (⟨target, iter, [], 0⟩ :: cs) scope pos) 0 it .none cenv) "<genexpr>" (env.qual ++ "<genexpr>")) := by
  rw [arm_eval_GeneratorExp]
  simp only [hco, Bool.false_eq_true, if_false]
  cases iter <;> rfl
section
variable {M : Model} {A : Around} {E : Value → Shared → Prop} {s : Shared}
theorem make_ge {env : Env} {elt target iter : Expr} {cs : List Comprehension} {scope : Scope} {cl : List (Str × Addr)} {pos : Pos} {Q : Value → Shared → Prop}
    (hco : scope.isCoroutine = false) (hclos : closureFor scope env = pure cl) (hcell : ∀ y ∈ scope.names, y.2 ≠ .cell) (h0 : scope.names.lookup (".0" : Str) = some NameKind.local) (hkind : scope.kind = .function)
    (hroom : A.depth < recursionLimit)
    (h : wpAny M A (eval iter env) (fun xv s₁ => wpAny M A (pyIter xv) (fun it s₂ => s₂.heap.NoLimit ∧
      wpAny M A (genexprCode env pos (env.qual ++ "<genexpr>") scope) (fun code s₃ => wpAny M A (builtinsFor env.globals env.builtins) (fun bi s₄ =>
        ∀ h', h'.Ns s₄.heap.objs.size (fun y => if y = ".0" then some it else none) → Heap.SameBut s₄.heap.objs.size (s₄.heap.push { cls := .type "frame", data := .dict #[] }) h' →
          Q (.ref h'.objs.size) { s₄ with
            gens := s₄.gens.push (.fresh (.compStart (.GeneratorExp elt (⟨target, iter, [], 0⟩ :: cs) scope pos) 0 it .none (genEnv scope cl s₄.heap.objs.size code bi env))),
            toks := s₄.toks + 1 + 1 + 1,
            heap := h'.push { cls := .type "generator", data := .fields #[.int s₄.gens.size 0, .str "<genexpr>" (s₄.toks + 1), .str (env.qual ++ "<genexpr>") (s₄.toks + 1 + 1)] } }) E s₃) E s₂) E s₁) E s)
    (hs : ∀ x, genFold iter env x = pure x) :
    wpAny M A (eval (.GeneratorExp elt (⟨target, iter, [], 0⟩ :: cs) scope pos) env) Q E s := by
  rw [eval_ge _ _ _ _ _ _ _ hco, hclos]
  refine wpAny_bind (wpAny_mono h (fun xv s₁ h₁ => ?_) fun _ _ e => e)
  refine wpAny_bind (wpAny_standAt ?_)
  refine wpAny_bind (wpAny_of_eq (hs xv) ?_)
  refine wpAny_bind (wpAny_holding (wpAny_mono h₁ (fun it s₂ h₂ => ?_) fun _ _ e => e))
  refine wpAny_bind (wpAny_enterFrame h₂.1 hroom ?_)
  refine wpAny_bind (wpAny_pure ?_)
  refine wpAny_bind (wpAny_mono h₂.2 (fun code s₃ h₃ => ?_) fun _ _ e => e)
  refine wpAny_bind (wpAny_mono h₃ (fun bi s₄ h₄ => ?_) fun _ _ e => e)
  have hbinds : ∀ y ∈ ([((".0" : Str), it)] : List (Str × Value)), scope.names.lookup y.1 = some NameKind.local := by
    intro y hy
    rcases List.mem_cons.mp hy with rfl | hy
    · exact h0
    · cases hy
  refine wpAny_bind (wpAny_newFunctionEnv hcell hbinds (fun h' hn' hs' => ?_) hkind)
  have e : (fun y : Str => ([((".0" : Str), it)] : List (Str × Value)).reverse.lookup y) = fun y : Str => if y = (".0" : Str) then some it else none := by
    funext y
    by_cases hy : y = ".0"
    · subst hy; simp
    · have : (y == (".0" : Str)) = false := by simpa using hy
      simp [List.lookup, this, hy]
  rw [e] at hn'
  simp only [newGenerator, newFields]
  refine wpAny_bind (wpAny_newGen (wpAny_bind (wpAny_mkText (wpAny_bind (wpAny_mkText (wpAny_newObj_type ?_ (by size_fits)))))))
  exact h₄ h' hn' hs'
end
section
variable {X : Cx}
/-- a generator expression made, to be walked by all or any (the consumer's part is a letter) -/
theorem gen_made {pins : List (Addr × Obj)} {σ : L2.St} {H : Hp} {s : Shared} {elt tg iter : Expr} {cs : List Comprehension} {scope : Scope} {own : List (Str × Nat)} {gpos : Pos} {wi : TI} {c P : Addr} {R : It → Hp → Prop} {Q' : Value → Shared → Prop} {d : Bool} {Q : V → Hp → Prop} {k : Nat}
    (hr : Room (k + 1) X.A) (hc : X.calm = true) (hN : X.N.Nodup) (TB : TabB X.base X.mg c P) (hcode : X.env.code = .ref c) (ok : GOk X.N X.env.scope scope own) (hi : PI X tg iter wi) (hs : ∀ v, genFold iter X.env v = pure v)
    (I : Inv X pins σ H s) (h : wi σ H fun J H1 => TabG H1 P ∧ ∀ H2, Tabbed P H1 H2 → R J H2)
    (hseg : ∀ (it : Addr) (fp : List Addr) (tn : Nat → Heap → Prop) (J : It) (H3 : Hp) (s3 : Shared) (code : Value) (a g0 : Nat) (go : Obj), R J H3 → Turn X.prog X.w X.K tg J fp it tn → (∀ h : Heap, h.get? a = some go → h.IsGen a g0) → (∀ b ∈ fp, a ≠ b) → (∀ b ∈ fp, H3 b = none) →
      (∀ H s, Inv (gcx X s3 H3 (genEnv scope (cloFrom X.env.cells scope.names []) s3.heap.objs.size code builtinsNs X.env) fp (X.A.in1.in1.over (gcode elt (⟨tg, iter, [], 0⟩ :: cs) scope gpos it (genEnv scope (cloFrom X.env.cells scope.names []) s3.heap.objs.size code builtinsNs X.env)) []) [(a, go)]) [] (wipe σ (own.map (·.2))) H s → Inv X pins σ H s) →
      ∃ n, ∀ s', Inv (gcx X s3 H3 (genEnv scope (cloFrom X.env.cells scope.names []) s3.heap.objs.size code builtinsNs X.env) fp (X.A.in1.in1.over (gcode elt (⟨tg, iter, [], 0⟩ :: cs) scope gpos it (genEnv scope (cloFrom X.env.cells scope.names []) s3.heap.objs.size code builtinsNs X.env)) []) [(a, go)]) [] (wipe σ (own.map (·.2))) H3 s' → tn 0 s'.heap →
        Seg (model X.prog X.w) X.A.in1.in1 (GRA fun s => ∃ H', Inv X pins σ H' s ∧ Q (.bl (!d)) H') (GYA a g0 d fun s => ∃ H', Inv X pins σ H' s ∧ Q (.bl d) H') n s' (gcode elt (⟨tg, iter, [], 0⟩ :: cs) scope gpos it (genEnv scope (cloFrom X.env.cells scope.names []) s3.heap.objs.size code builtinsNs X.env))
          ((model X.prog X.w).den (gcode elt (⟨tg, iter, [], 0⟩ :: cs) scope gpos it (genEnv scope (cloFrom X.env.cells scope.names []) s3.heap.objs.size code builtinsNs X.env))) [] s')
    (hQ : ∀ (a : Addr) (g0 n : Nat) (s5 : Shared), GAt X.prog X.w X.A.in1.in1 a g0 d (fun s => ∃ H', Inv X pins σ H' s ∧ Q (.bl (!d)) H') (fun s => ∃ H', Inv X pins σ H' s ∧ Q (.bl d) H') n s5 → Q' (.ref a) s5) :
    wpAny (model X.prog X.w) X.A (eval (.GeneratorExp elt (⟨tg, iter, [], 0⟩ :: cs) scope gpos) X.env) Q' X.xe s := by
  have hfree : ∀ y ∈ scope.names, y.2 = .free → ∃ c, X.env.cells.lookup y.1 = some c := fun y hy e => by
    rcases ok.blk.free y hy e with k | k
    · exact I.ok.has _ (.inl k)
    · exact I.ok.has _ (.inr k)
  refine make_ge ok.co (closure_ok hfree) ok.cell ok.dot ok.blk.kind hr.depth (thn (hi.run pins s σ H _ I h) fun xv s1 hx => thn hx fun itv s2 h2 => ?_) hs
  obtain ⟨it, fp, tn, J, H2, e, I2, T, st2, f2, ⟨ps, hP, ht⟩, q2⟩ := h2
  subst e
  have hPs : s2.heap.get? P = some { cls := .none, data := .fields ps } := I2.hok P _ hP
  have cd : PySem.W.CodeHd s2.heap c P := TB.code.keeps fun b u e => I2.bk b u e
  have cont : ∀ (code : Value) (h3 : Heap) (tk : Nat) (ps' : Array Value), Heap.ExtBut P s2.heap h3 → h3.get? P = some { cls := .none, data := .fields ps' } → (∃ more, ps' = ps ++ more) → TriplesOk ps'.toList →
      wpAny (model X.prog X.w) X.A (builtinsFor X.env.globals X.env.builtins) (fun bi s₄ =>
        ∀ h', h'.Ns s₄.heap.objs.size (fun y => if y = ".0" then some (.ref it) else none) → Heap.SameBut s₄.heap.objs.size (s₄.heap.push { cls := .type "frame", data := .dict #[] }) h' →
          Q' (.ref h'.objs.size) { s₄ with
            gens := s₄.gens.push (.fresh (.compStart (.GeneratorExp elt (⟨tg, iter, [], 0⟩ :: cs) scope gpos) 0 (.ref it) .none (genEnv scope (cloFrom X.env.cells scope.names []) s₄.heap.objs.size code bi X.env))),
            toks := s₄.toks + 1 + 1 + 1,
            heap := h'.push { cls := .type "generator", data := .fields #[.int s₄.gens.size 0, .str "<genexpr>" (s₄.toks + 1), .str (X.env.qual ++ "<genexpr>") (s₄.toks + 1 + 1)] } }) X.xe { s2 with heap := h3, toks := tk } := by
    intro code h3 tk ps' hx hP3 hmore ht3
    obtain ⟨bm, ob, e1, e2, e3, e4, e5, e6, e7, e8⟩ := TB.bm
    have keep3 : ∀ b u, b ≠ P → s2.heap.get? b = some u → h3.get? b = some u := fun b u hb e => hx b u hb e
    refine wpAny_builtinsFor (m := X.mg) (by rw [I2.ok.glob]; exact (I2.mod.glob.keeps I2.bk).extBut hx TB.gP) e1 e2 (keep3 _ _ e4 (I2.bk _ _ e5)) e6 e7 e8 ?_
    obtain ⟨more, em⟩ := hmore
    have I3 : Inv X pins σ (upd H2 P (.tbl (ps ++ more))) { s2 with heap := h3, toks := tk } := inv_tab (g' := s2.gens) (d' := s2.drawn) I2 hP keep3 (by rw [← em]; exact hP3) I2.bare
    have hTab : Tabbed P H2 (upd H2 P (.tbl (ps ++ more))) := ⟨⟨ps ++ more, upd_same, by rw [← em]; exact ht3⟩, fun b hb => upd_ne hb⟩
    have qR := q2 _ hTab
    generalize upd H2 P (.tbl (ps ++ more)) = H3 at I3 hTab qR
    generalize hs3 : ({ s2 with heap := h3, toks := tk } : Shared) = s3 at I3 ⊢
    have e3h : s3.heap = h3 := by rw [← hs3]
    intro h' hn' hs'
    have fpP : ∀ b ∈ fp, b ≠ P := fun b hb z => by
      have := (f2 b hb).1
      rw [z, hP] at this
      cases this
    have f3n : ∀ b ∈ fp, H3 b = none := fun b hb => by rw [hTab.2 b (fpP b hb)]; exact (f2 b hb).1
    have f3 : ∀ b ∈ fp, FpOk X pins H3 b ∧ b < s3.heap.objs.size := fun b hb => by
      refine ⟨⟨f3n b hb, (f2 b hb).2⟩, ?_⟩
      obtain ⟨o, e, _⟩ := T.obj _ _ st2 b hb
      rw [e3h]
      exact Heap.lt_size (keep3 b o (fpP b hb) e)
    have st3 : tn 0 s3.heap := T.keep _ _ _ st2 fun b hb o e => by rw [e3h]; exact keep3 b o (fpP b hb) e
    generalize hgo : ({ cls := .type "generator", data := .fields #[.int s3.gens.size 0, .str "<genexpr>" (s3.toks + 1), .str (X.env.qual ++ "<genexpr>") (s3.toks + 1 + 1)] } : Obj) = go
    have hgen : ∀ h : Heap, h.get? h'.objs.size = some go → h.IsGen h'.objs.size s3.gens.size := fun h e => ⟨go, _, _, e, by rw [← hgo], by rw [← hgo], by rw [← hgo]⟩
    have hsz : h'.objs.size = s3.heap.objs.size + 1 := by rw [hs'.1, Heap.size_push]
    have keep' : ∀ b o, s3.heap.get? b = some o → h'.get? b = some o := fun b o e => hs'.extBut b o (Nat.ne_of_lt (Heap.lt_size e)) (Heap.get?_push_of_some _ e)
    have keep5 : ∀ b o, s3.heap.get? b = some o → (h'.push go).get? b = some o := fun b o e => Heap.get?_push_of_some _ (keep' b o e)
    have afp : ∀ b ∈ fp, h'.objs.size ≠ b := fun b hb z => by
      have := (f3 b hb).2
      rw [← z, hsz] at this
      exact absurd (Nat.lt_of_succ_lt this) (Nat.lt_irrefl _)
    have back : ∀ H s, Inv (gcx X s3 H3 (genEnv scope (cloFrom X.env.cells scope.names []) s3.heap.objs.size code builtinsNs X.env) fp (X.A.in1.in1.over (gcode elt (⟨tg, iter, [], 0⟩ :: cs) scope gpos it (genEnv scope (cloFrom X.env.cells scope.names []) s3.heap.objs.size code builtinsNs X.env)) []) [(h'.objs.size, go)]) [] (wipe σ (own.map (·.2))) H s → Inv X pins σ H s := fun H s I6 =>
      I3.call' (ch := fp) I6.os I6.base I6.hok I6.bare fun b hb => ⟨(f3 b hb).1.2.2.2.1, (f3 b hb).1.2.1, (f3 b hb).1.2.2.2.2.1, (f3 b hb).1.2.2.2.2.2⟩
    obtain ⟨n, hn⟩ := hseg it fp tn J H3 s3 code h'.objs.size s3.gens.size go qR T hgen afp f3n back
    refine hQ h'.objs.size s3.gens.size n _ ?_
    have nolim : ∀ {s' : Shared}, (∀ b o, s3.heap.get? b = some o → s'.heap.get? b = some o) → s'.heap.NoLimit := fun {s'} k => I3.nolimit.keeps k
    refine ⟨hgen _ (Heap.get?_push_size _ (by rw [← hgo]; rfl)), I3.nolimit.keeps keep5, AllBare.push I3.bare rfl, _, Array.getElem?_push_size .., fun s' q => ⟨rfl, ?_⟩⟩
    have kq : ∀ b o, s3.heap.get? b = some o → s'.heap.get? b = some o := fun b o e => by rw [q.heap]; exact keep5 b o e
    have st5 : tn 0 s'.heap := T.keep _ _ _ st3 fun b hb o e => kq b o e
    refine seg_start T st5 (hn s' ?_ st5)
    refine gen_start I3 ok hN f3 hr.hd (gcode_frames (I3.ok.frames)) kq (m := fun y => if y = ".0" then some (.ref it) else none) ?_ (q.os.trans rfl) q.bare fun p hp => ?_
    · rw [q.heap]
      exact hn'.push _
    · rw [List.mem_singleton.mp hp]
      refine ⟨by rw [q.heap]; exact Heap.get?_push_size _ (by rw [← hgo]; rfl), by show s3.heap.objs.size < h'.objs.size; rw [hsz]; exact Nat.lt_succ_self _, fun v z => ?_⟩
      rw [← hgo] at z
      cases z
  refine ⟨I2.nolimit, ?_⟩
  cases hf : codeAmong gpos ps.toList with
  | none =>
    refine wpAny_genexprCodeX hcode (cd.code hPs ht) (cd.tab hPs) hf fun c' h' tk hx hge hlt hco' _ htab' _ => ?_
    obtain ⟨o1, vs, f1, tf, fl, tg', inF, tx, tt, op, _, _, _, _, _, _, _, _, _, htr, _⟩ := hco'
    exact cont _ h' tk _ hx htab'.2 ⟨_, rfl⟩ htr
  | some cv =>
    refine wpAny_genexprCode_hit hcode (cd.code hPs ht) hf ?_
    exact cont cv s2.heap s2.toks ps (Heap.ExtBut.refl _ _) hPs ⟨#[], by simp⟩ ht
end
end AL
set_option Elab.async false
set_option linter.all false
set_option maxRecDepth 100000
set_option maxHeartbeats 4000000
namespace AL
open PySem PySem.Spec PyProof.Rows L2
open GxR (TabB TabG Tabbed inv_tab sh_eta)

theorem wipe_back {vs : List Nat} {σ0 σ : L2.St} (h : wipe σ vs = σ0) : σ.length = σ0.length ∧ ∀ (i : Nat) v, σ0[i]? = some (some v) → σ[i]? = some (some v) := by
  subst h
  exact ⟨(wipe_length _ _).symm, fun i v e => (wipe_some e).1⟩

/-- all(e for x in it) (d = false), any(..) (d = true): by an invariant over (turn, turns that may follow, heap) -/
def tQuant (K : PySem.W.Frag) (P : Addr) (d : Bool) (wi : TI) (g : TG) (te : TE) (vs : List Nat) : TE := fun σ H Q => wi σ H fun J H1 => TabG H1 P ∧ ∀ H2, Tabbed P H1 H2 →
  ∃ W : Nat → Nat → Hp → Prop, (∃ m, W 0 m H2) ∧ W1 K J g te (wipe σ vs) vs d (Q (.bl (!d))) (Q (.bl d)) W
section
variable {X : Cx} {c P : Addr} {elt tg iter : Expr} {scope : Scope} {own : List (Str × Nat)} {p pos gpos : Pos} {wi : TI} {g : TG} {te : TE} {k : Nat}
theorem gen_one {pins : List (Addr × Obj)} {σ : L2.St} {H : Hp} {s : Shared} {d : Bool} {Q : V → Hp → Prop} {Q' : Value → Shared → Prop}
    (hr : Room (k + 1) X.A) (hc : X.calm = true) (hN : X.N.Nodup) (TB : TabB X.base X.mg c P) (hcode : X.env.code = .ref c) (ok : GOk X.N X.env.scope scope own) (hi : PI X tg iter wi) (hs : ∀ v, genFold iter X.env v = pure v)
    (hg : ∀ (s : Shared) (H : Hp) (C : Addr) (cl : List (Str × Addr)) (code : Value) (fp : List Addr) (A : Around) (pn : List (Addr × Obj)), PG (gcx X s H (genEnv scope cl C code builtinsNs X.env) fp A pn) tg g)
    (he : ∀ (s : Shared) (H : Hp) (C : Addr) (cl : List (Str × Addr)) (code : Value) (fp : List Addr) (A : Around) (pn : List (Addr × Obj)), Room k A → PE (gcx X s H (genEnv scope cl C code builtinsNs X.env) fp A pn) elt te)
    (I : Inv X pins σ H s) (h : tQuant X.K P d wi g te (own.map (·.2)) σ H Q)
    (hQ : ∀ (a : Addr) (g0 n : Nat) (s5 : Shared), GAt X.prog X.w X.A.in1.in1 a g0 d (fun s => ∃ H', Inv X pins σ H' s ∧ Q (.bl (!d)) H') (fun s => ∃ H', Inv X pins σ H' s ∧ Q (.bl d) H') n s5 → Q' (.ref a) s5) :
    wpAny (model X.prog X.w) X.A (eval (.GeneratorExp elt [⟨tg, iter, [], 0⟩] scope gpos) X.env) Q' X.xe s := by
  refine gen_made (R := fun J H2 => ∃ W : Nat → Nat → Hp → Prop, (∃ m, W 0 m H2) ∧ W1 X.K J g te (wipe σ (own.map fun x : Str × Nat => x.2)) (own.map fun x : Str × Nat => x.2) d (Q (.bl (!d))) (Q (.bl d)) W) (d := d) (Q := Q)
    hr hc hN TB hcode ok hi hs I h (fun it fp tn J H3 s3 code a g0 go hR T hgen afp f3n back => ?_) hQ
  obtain ⟨W, ⟨m, w0⟩, w1⟩ := hR
  refine ⟨m + 1, fun s' I' st' => ?_⟩
  exact seg_one (X := gcx X s3 H3 (genEnv scope (cloFrom X.env.cells scope.names []) s3.heap.objs.size code builtinsNs X.env) fp (X.A.in1.in1.over (gcode elt [⟨tg, iter, [], 0⟩] scope gpos it (genEnv scope (cloFrom X.env.cells scope.names []) s3.heap.objs.size code builtinsNs X.env)) []) [(a, go)])
    (go := go) (QT := Q (.bl (!d))) (QF := Q (.bl d)) hgen (fun c e => by subst e; rfl) ok.co rfl hc (fun _ _ z => z) (List.mem_singleton.mpr rfl) (fun q hq b hb => by rw [List.mem_singleton.mp hq]; exact afp b hb) (fun b hb => hb)
    T (fun vσ hv => wipe_back hv) (hg _ _ _ _ _ _ _ _) (he _ _ _ _ _ _ _ _ (gcode_room hr)) w1 (fun H s I6 q => ⟨H, back H s I6, q⟩) (fun H s I6 q => ⟨H, back H s I6, q⟩) m (m + 1) 0 s' s' H3 (Nat.lt_succ_self m) w0 I' st' f3n
theorem pe_allG (hr : Room (k + 1) X.A) (hc : X.calm = true) (hN : X.N.Nodup) (hgl : Gl X "all") (hm : X.mg "all" = none) (TB : TabB X.base X.mg c P) (hcode : X.env.code = .ref c) (ok : GOk X.N X.env.scope scope own) (hi : PI X tg iter wi)
    (hg : ∀ (s : Shared) (H : Hp) (C : Addr) (cl : List (Str × Addr)) (code : Value) (fp : List Addr) (A : Around) (pn : List (Addr × Obj)), PG (gcx X s H (genEnv scope cl C code builtinsNs X.env) fp A pn) tg g)
    (he : ∀ (s : Shared) (H : Hp) (C : Addr) (cl : List (Str × Addr)) (code : Value) (fp : List Addr) (A : Around) (pn : List (Addr × Obj)), Room k A → PE (gcx X s H (genEnv scope cl C code builtinsNs X.env) fp A pn) elt te)
    (hs : ∀ v, genFold iter X.env v = pure v := by intro _; rfl) (hb : bootBuiltins "all" = some (.builtin "all") := by decide +kernel)
    (hst : starEach [.GeneratorExp elt [⟨tg, iter, [], 0⟩] scope gpos] X.env = (false, eval (.GeneratorExp elt [⟨tg, iter, [], 0⟩] scope gpos) X.env) :: starEach [] X.env := by rfl) :
    PE X (.Call (.Name "all" p) [.GeneratorExp elt [⟨tg, iter, [], 0⟩] scope gpos] [] pos) (tQuant X.K P false wi g te (own.map (·.2))) := by
  refine ⟨fun pins s σ H Q I h => ?_⟩
  refine wpAny_Call_Name_kw (ld_blt I hgl hm hb ?_)
  refine PyProof.Rows.callWith_builtin1 ?_ hst (by rfl)
  rw [hst]
  show wpAny _ _ (spliced ((false, eval (.GeneratorExp elt [⟨tg, iter, [], 0⟩] scope gpos) X.env) :: backTo pos (starEach [] X.env))) _ _ s
  refine Calls.spliced_cons (gen_one (Q := Q) hr hc hN TB hcode ok hi hs hg he I h fun a g0 n s5 hG => ?_)
  refine Calls.spliced_nil ?_
  refine call_all_gen hr.hd hr.depth hG (fun s₁ s' hT hb' ho k' => ?_) (fun s₁ s' hF q => ?_) fun s ⟨H', J, _⟩ => J.bare
  · obtain ⟨H', J, q'⟩ := hT
    exact ⟨.bl true, H', inv_ext J ho hb' k', rfl, q'⟩
  · obtain ⟨H', J, q'⟩ := hF
    exact ⟨.bl false, H', inv_quietly J q, rfl, q'⟩
theorem pe_anyG (hr : Room (k + 1) X.A) (hc : X.calm = true) (hN : X.N.Nodup) (hgl : Gl X "any") (hm : X.mg "any" = none) (TB : TabB X.base X.mg c P) (hcode : X.env.code = .ref c) (ok : GOk X.N X.env.scope scope own) (hi : PI X tg iter wi)
    (hg : ∀ (s : Shared) (H : Hp) (C : Addr) (cl : List (Str × Addr)) (code : Value) (fp : List Addr) (A : Around) (pn : List (Addr × Obj)), PG (gcx X s H (genEnv scope cl C code builtinsNs X.env) fp A pn) tg g)
    (he : ∀ (s : Shared) (H : Hp) (C : Addr) (cl : List (Str × Addr)) (code : Value) (fp : List Addr) (A : Around) (pn : List (Addr × Obj)), Room k A → PE (gcx X s H (genEnv scope cl C code builtinsNs X.env) fp A pn) elt te)
    (hs : ∀ v, genFold iter X.env v = pure v := by intro _; rfl) (hb : bootBuiltins "any" = some (.builtin "any") := by decide +kernel)
    (hst : starEach [.GeneratorExp elt [⟨tg, iter, [], 0⟩] scope gpos] X.env = (false, eval (.GeneratorExp elt [⟨tg, iter, [], 0⟩] scope gpos) X.env) :: starEach [] X.env := by rfl) :
    PE X (.Call (.Name "any" p) [.GeneratorExp elt [⟨tg, iter, [], 0⟩] scope gpos] [] pos) (tQuant X.K P true wi g te (own.map (·.2))) := by
  refine ⟨fun pins s σ H Q I h => ?_⟩
  refine wpAny_Call_Name_kw (ld_blt I hgl hm hb ?_)
  refine PyProof.Rows.callWith_builtin1 ?_ hst (by rfl)
  rw [hst]
  show wpAny _ _ (spliced ((false, eval (.GeneratorExp elt [⟨tg, iter, [], 0⟩] scope gpos) X.env) :: backTo pos (starEach [] X.env))) _ _ s
  refine Calls.spliced_cons (gen_one (Q := Q) hr hc hN TB hcode ok hi hs hg he I h fun a g0 n s5 hG => ?_)
  refine Calls.spliced_nil ?_
  refine call_any_gen hr.hd hr.depth hG (fun s₁ s' hT hb' ho k' => ?_) (fun s₁ s' hF q => ?_) fun s ⟨H', J, _⟩ => J.bare
  · obtain ⟨H', J, q'⟩ := hT
    exact ⟨.bl false, H', inv_ext J ho hb' k', rfl, q'⟩
  · obtain ⟨H', J, q'⟩ := hF
    exact ⟨.bl true, H', inv_quietly J q, rfl, q'⟩
end
end AL
set_option Elab.async false
set_option linter.all false
set_option maxRecDepth 100000
set_option maxHeartbeats 4000000
namespace AL
open PySem PySem.Spec PyProof.Rows L2
open GxR (TabB TabG Tabbed inv_tab sh_eta)

/-- the second clause's walk, from a turn of the first -/
structure W2in (K : PySem.W.Frag) (J : It) (g : TG) (te : TE) (σ1 : L2.St) (vs1 : List Nat) (d : Bool) (QF : Hp → Prop) (m : Nat) (Nx : Nat → Hp → Prop) (W : Nat → Nat → Hp → Prop) : Prop where
  turn : ∀ j n H, n ≤ m → W j n H → (J.stop j H ∧ ∃ n', n' < m ∧ n' ≤ n ∧ Nx n' H) ∨ (J.go j H ∧ ∀ x H', J.yld j H x H' → g x σ1 H' fun σ2 H2 => wipe σ2 vs1 = σ1 ∧ te σ2 H2 fun y H3 => ∃ b, y = .bl b ∧ (b = d → QF H3) ∧ (b ≠ d → ∃ n', n' < n ∧ W (j + 1) n' H3))
/-- two clauses: the outer invariant W; a turn's own -/
structure W2 (K : PySem.W.Frag) (J : It) (g : TG) (wi1 : TI) (g1 : TG) (te : TE) (σ0 : L2.St) (vs0 vs1 : List Nat) (d : Bool) (QT QF : Hp → Prop) (W : Nat → Nat → Hp → Prop) : Prop where
  turn : ∀ i m H, W i m H → (J.stop i H ∧ QT H) ∨ (J.go i H ∧ ∀ x H', J.yld i H x H' → g x σ0 H' fun σ1 H2 => wipe σ1 vs0 = σ0 ∧ wi1 σ1 H2 fun J1 H3 =>
    ∃ WI : Nat → Nat → Hp → Prop, (∃ n, n ≤ m ∧ WI 0 n H3) ∧ W2in K J1 g1 te σ1 vs1 d QF m (fun n' H => W (i + 1) n' H) WI)

section
variable {X : Cx} {a : Addr} {g0 : Nat} {d : Bool} {FinT FinF : Shared → Prop} {QT QF : Hp → Prop} {ce : Env} {fp : List Addr} {A : Around} {go : Obj}

/-- the second clause's loop -/
theorem seg_inner {elt t0 i0 tg iter : Expr} {scope : Scope} {pos ppos : Pos} {it0 it : Addr} {tn : Nat → Heap → Prop} {J : It} {g : TG} {te : TE} {σ1 : L2.St} {vs1 : List Nat} {W : Nat → Nat → Hp → Prop} {fp1 : List Addr} {pins : List (Addr × Obj)} {m : Nat} {Nx : Nat → Hp → Prop}
    {k : Result → Sem PySem.Fin} {hm : Option Value} {lv : List Value} {kp : List Value}
    (hgo : ∀ h : Heap, h.get? a = some go → h.IsGen a g0)
    (hXA : A.over (.compLoop (.GeneratorExp elt [⟨t0, i0, [], 0⟩, ⟨tg, iter, [], 0⟩] scope pos) 1 (.ref it) .none ce) [.ret k hm false lv (.compLoop (.GeneratorExp elt [⟨t0, i0, [], 0⟩, ⟨tg, iter, [], 0⟩] scope pos) 0 (.ref it0) .none ce) ppos kp] = X.A) (hco : ce.scope.isCoroutine = false)
    (henv : X.env = ce) (hcalm : X.calm = true) (hxe : ∀ e s, ¬ X.xe e s) (hpn : (a, go) ∈ X.pn)
    (T : Turn X.prog X.w X.K tg J fp1 it tn) (hg : PG X tg g) (he : PE X elt te) (w1 : W2in X.K J g te σ1 vs1 d QF m Nx W)
    (hF : ∀ H s, Inv X pins σ1 H s → QF H → FinF s) (n0 : Nat)
    (hk : ∀ (n' n : Nat) (s₀ s : Shared) (H : Hp), n' < m → n' < n → Nx n' H → Inv X pins σ1 H s → Seg (model X.prog X.w) A (GRA FinT) (GYA a g0 d FinF) n s₀ (.compLoop (.GeneratorExp elt [⟨t0, i0, [], 0⟩, ⟨tg, iter, [], 0⟩] scope pos) 0 (.ref it0) .none ce) (k (.ok .next)) [] s) :
    ∀ (m1 n j : Nat) (s₀ s : Shared) (H : Hp), m1 < n → m1 ≤ m → W j m1 H → Inv X pins σ1 H s → tn j s.heap → (∀ b ∈ fp1, FpOk X pins H b) →
      Seg (model X.prog X.w) A (GRA FinT) (GYA a g0 d FinF) n s₀ (.compLoop (.GeneratorExp elt [⟨t0, i0, [], 0⟩, ⟨tg, iter, [], 0⟩] scope pos) 1 (.ref it) .none ce)
        ((model X.prog X.w).den (.compLoop (.GeneratorExp elt [⟨t0, i0, [], 0⟩, ⟨tg, iter, [], 0⟩] scope pos) 1 (.ref it) .none ce)) [.ret k hm false lv (.compLoop (.GeneratorExp elt [⟨t0, i0, [], 0⟩, ⟨tg, iter, [], 0⟩] scope pos) 0 (.ref it0) .none ce) ppos kp] s := by
  intro m1
  induction m1 using Nat.strongRecOn with
  | _ m1 ih =>
    intro n j s₀ s H hmn hmm hW I st hfp
    show Seg _ A _ _ _ s₀ _ ((compTurn (.GeneratorExp elt [⟨t0, i0, [], 0⟩, ⟨tg, iter, [], 0⟩] scope pos) 1 (.ref it) .none ce).onRaise (fun x => do noteFrame x ce; theTreesLotGoes x)) _ s
    rw [ge2_in, Sem.onRaise_eq_wrap]
    refine seg_bind_wrap (wpAny_standAt ?_)
    rcases w1.turn j m1 H hmm hW with ⟨stop, n', h1, h2, nx⟩ | ⟨go', step⟩
    · refine seg_bind_wrap ?_
      rw [hXA]
      refine thn (T.done X rfl rfl rfl hcalm j pins s σ1 H _ I hfp st stop) fun r s1 ⟨hr, I1⟩ => ?_
      subst hr
      exact seg_leaf (.ok .next) (hk n' n s₀ s1 H h1 (by omega) nx I1)
    · refine seg_bind_wrap ?_
      rw [hXA]
      refine thn (T.item X rfl rfl rfl hcalm j pins s σ1 H _ I hfp st go') fun r s1 ⟨u, hr, h1⟩ => ?_
      subst hr
      refine seg_bind_wrap ?_
      rw [hXA]
      refine wpAny_mono h1 (fun _ s2 hh => ?_) fun _ _ z => z
      obtain ⟨x, H2, I2, r2, y2, st2, n2⟩ := hh
      have fp2 : ∀ b ∈ fp1, FpOk X pins H2 b := fun b hb => ⟨n2 b hb, (hfp b hb).2⟩
      have I2' := I2.pinned fp2 (T.obj _ _ st2)
      refine seg_bind_wrap ?_
      rw [hXA]
      have hgr := hg.run _ s2 σ1 H2 x u _ I2' r2 (step x H2 y2)
      rw [henv] at hgr
      refine wpAny_mono hgr (fun _ s4 ⟨σ4, H4, I4, hw4, q4⟩ => ?_) fun e s' z => (hxe e s' z).elim
      have hy : ∀ v, yieldOut ce v = yieldValue v := fun v => by simp only [yieldOut, hco, Bool.false_eq_true, if_false]
      simp only [hy]
      rw [Sem.bind_eq_wrap', Sem.bind_eq_wrap', Sem.wrap_wrap, Sem.wrap_wrap]
      refine seg_wrap ?_
      rw [hXA]
      have her := he.run _ s4 σ4 H4 _ I4 q4
      rw [henv] at her
      refine wpAny_mono her (fun yv s5 ⟨y, H5, I5, r5, b, hyb, qd, qn⟩ => ?_) fun e s' z => (hxe e s' z).elim
      subst hyb
      have r5 : yv = .bool b := r5
      subst r5
      have pin' : ∀ q ∈ fp1, ∀ o, s2.heap.get? q = some o → s5.heap.get? q = some o ∧ H5 q = none := fun q hb o e =>
        let z := I5.pin (q, o) (List.mem_append_right _ (List.mem_append_right _ (mem_pinsAt hb e)))
        ⟨z.1, z.2.1⟩
      obtain ⟨hl4, hv4⟩ := wipe_back hw4
      have I6 : Inv X pins σ1 H5 s5 := (I5.unpinned (pins := pins)).weak hl4.symm fun j v e => hv4 j v e
      have hgen : s5.heap.IsGen a g0 := hgo _ (I6.pin (a, go) (List.mem_append_left _ hpn)).1
      by_cases hbd : b = d
      · cases n with
        | zero => omega
        | succ n => exact seg_at (seg_yield rfl rfl rfl ⟨b, rfl, hgen, I6.nolimit, I6.bare, fun _ => hF H5 s5 I6 (qd hbd), fun z => absurd hbd z⟩)
      · obtain ⟨m', hm', w'⟩ := qn hbd
        cases n with
        | zero => omega
        | succ n =>
          refine seg_at (seg_yield rfl rfl rfl ⟨b, rfl, hgen, I6.nolimit, I6.bare, fun z => absurd z hbd, fun _ s' q => ?_⟩)
          refine seg_again rfl (ih m' hm' n (j + 1) s' s' H5 (by omega) (by omega) w' (inv_quietly I6 q) ?_ fun q' hb => ?_)
          · rw [q.heap]
            exact T.keep _ _ _ st2 fun q' hb o e => (pin' q' hb o e).1
          · obtain ⟨o, e, _⟩ := T.obj _ _ st2 q' hb
            exact ⟨(pin' q' hb o e).2, (hfp q' hb).2⟩
end
end AL
set_option Elab.async false
set_option linter.all false
set_option maxRecDepth 100000
set_option maxHeartbeats 4000000
namespace AL
open PySem PySem.Spec PyProof.Rows L2
open GxR (TabB TabG Tabbed inv_tab sh_eta)
section
variable {X : Cx} {a : Addr} {g0 : Nat} {d : Bool} {FinT FinF : Shared → Prop} {QT QF : Hp → Prop} {ce : Env} {fp : List Addr} {A : Around} {go : Obj}

theorem seg_start1 {P : Program} {w : World} {R : GenEnd} {Y : Protocol} {n : Nat} {s₀ s : Shared} {elt tg iter : Expr} {c0 : Comprehension} {scope : Scope} {pos : Pos} {it : Addr} {K : PySem.W.Frag} {J : It} {tn : Nat → Heap → Prop} {fs : List Frame} (T : Turn P w K tg J fp it tn) (st : tn 0 s.heap)
    (h : Seg (model P w) A R Y n s₀ (.compLoop (.GeneratorExp elt [c0, ⟨tg, iter, [], 0⟩] scope pos) 1 (.ref it) .none ce) ((model P w).den (.compLoop (.GeneratorExp elt [c0, ⟨tg, iter, [], 0⟩] scope pos) 1 (.ref it) .none ce)) fs s) :
    Seg (model P w) A R Y n s₀ (.compStart (.GeneratorExp elt [c0, ⟨tg, iter, [], 0⟩] scope pos) 1 (.ref it) .none ce) ((model P w).den (.compStart (.GeneratorExp elt [c0, ⟨tg, iter, [], 0⟩] scope pos) 1 (.ref it) .none ce)) fs s := by
  show Seg _ A _ _ _ s₀ _ ((compStart (.GeneratorExp elt [c0, ⟨tg, iter, [], 0⟩] scope pos) 1 (.ref it) .none ce).onRaise (fun x => do noteFrame x ce; standAt theWindowsPlace)) fs s
  unfold compStart
  rw [Sem.onRaise_eq_wrap]
  show Seg _ A _ _ _ s₀ _ ((ask >>= _).wrap _ _ _ _) fs s
  refine seg_bind_wrap (wpAny_askSetting ?_)
  split
  · exact seg_again rfl h
  · refine seg_bind_wrap (wpAny_rule ?_)
    show Seg _ A _ _ _ s₀ _ ((standAt iter.pos >>= _).wrap _ _ _ _) fs s
    exact seg_bind_wrap (wpAny_standAt (seg_bind_wrap (T.self _ 0 s _ _ st (seg_again rfl h))))

theorem seg_outer {elt tg iter tg1 iter1 : Expr} {scope : Scope} {pos : Pos} {it : Addr} {tn : Nat → Heap → Prop} {J : It} {g g1 : TG} {wi1 : TI} {te : TE} {σ0 : L2.St} {vs0 vs1 : List Nat} {W : Nat → Nat → Hp → Prop}
    (hgo : ∀ h : Heap, h.get? a = some go → h.IsGen a g0)
    (hXA : A.over (gcode elt [⟨tg, iter, [], 0⟩, ⟨tg1, iter1, [], 0⟩] scope pos it ce) [] = X.A) (hco : ce.scope.isCoroutine = false)
    (henv : X.env = ce) (hcalm : X.calm = true) (hxe : ∀ e s, ¬ X.xe e s) (hpn : (a, go) ∈ X.pn)
    (hpn2 : ∀ p ∈ X.pn, ∀ b ∈ fp, p.1 ≠ b) (hex : ∀ b ∈ fp, b ∈ X.ex)
    (T : Turn X.prog X.w X.K tg J fp it tn)
    (hg : PG X tg g) (hi1 : PI X tg1 iter1 wi1) (hs1 : ∀ v, foldedSetIterable iter1 ce v = pure v) (hg1 : PG X tg1 g1) (he : PE X elt te) (w2 : W2 X.K J g wi1 g1 te σ0 vs0 vs1 d QT QF W)
    (hT : ∀ H s, Inv X [] σ0 H s → QT H → FinT s) (hF : ∀ H s, Inv X [] σ0 H s → QF H → FinF s) :
    ∀ (m n i : Nat) (s₀ s : Shared) (H : Hp), m < n → W i m H → Inv X [] σ0 H s → tn i s.heap → (∀ b ∈ fp, H b = none) →
      Seg (model X.prog X.w) A (GRA FinT) (GYA a g0 d FinF) n s₀ (gcode elt [⟨tg, iter, [], 0⟩, ⟨tg1, iter1, [], 0⟩] scope pos it ce)
        ((model X.prog X.w).den (gcode elt [⟨tg, iter, [], 0⟩, ⟨tg1, iter1, [], 0⟩] scope pos it ce)) [] s := by
  have stat : ∀ {σ' : L2.St} {H' : Hp} {s' : Shared}, Inv X [] σ' H' s' → (∀ b ∈ fp, H' b = none) → ∀ b ∈ fp, FpOk X [] H' b := fun {σ' H' s'} I' hn b hb =>
    ⟨hn b hb, (I'.ok.exf b (hex b hb)).1, I'.ok.exfs b (hex b hb), .inl (hex b hb), fun x c e => (I'.ok.exf b (hex b hb)).2 x c e, fun p hp => by
      rcases List.mem_append.mp hp with z | z
      · exact hpn2 p z b hb
      · cases z⟩
  intro m
  induction m using Nat.strongRecOn with
  | _ m ih =>
    intro n i s₀ s H hmn hW I st hfp
    show Seg _ A _ _ _ s₀ _ ((compTurn (.GeneratorExp elt [⟨tg, iter, [], 0⟩, ⟨tg1, iter1, [], 0⟩] scope pos) 0 (.ref it) .none ce).onRaise (leaving ce)) [] s
    rw [ge2_out, Sem.onRaise_eq_wrap]
    refine seg_bind_wrap (wpAny_standAt ?_)
    rcases w2.turn i m H hW with ⟨stop, qt⟩ | ⟨go', step⟩
    · refine seg_bind_wrap ?_
      rw [hXA]
      refine thn (T.done X rfl rfl rfl hcalm i [] s σ0 H _ I (stat I hfp) st stop) fun r s1 ⟨hr, I1⟩ => ?_
      subst hr
      exact seg_end (.ok .next) ⟨rfl, hT H s1 I1 qt⟩
    · refine seg_bind_wrap ?_
      rw [hXA]
      refine thn (T.item X rfl rfl rfl hcalm i [] s σ0 H _ I (stat I hfp) st go') fun r s1 ⟨u, hr, h1⟩ => ?_
      subst hr
      refine seg_bind_wrap ?_
      rw [hXA]
      refine wpAny_mono h1 (fun _ s2 hh => ?_) fun _ _ z => z
      obtain ⟨x, H2, I2, r2, y2, st2, n2⟩ := hh
      have I2' := I2.pinned (stat I2 n2) (T.obj _ _ st2)
      refine seg_bind_wrap ?_
      rw [hXA]
      have hgr := hg.run _ s2 σ0 H2 x u _ I2' r2 (step x H2 y2)
      rw [henv] at hgr
      refine wpAny_mono hgr (fun _ s4 ⟨σ4, H4, I4, hw4, q4⟩ => ?_) fun e s' z => (hxe e s' z).elim
      refine seg_bind_wrap ?_
      rw [hXA]
      have hir := hi1.run _ s4 σ4 H4 _ I4 q4
      rw [henv] at hir
      refine wpAny_mono hir (fun xv s5 hx5 => ?_) fun e s' z => (hxe e s' z).elim
      refine seg_bind_wrap (wpAny_standAt ?_)
      refine seg_bind_wrap (wpAny_of_eq (hs1 xv) ?_)
      refine seg_bind_wrap ?_
      rw [hXA]
      refine wpAny_holding (wpAny_mono hx5 (fun itv s6 h6 => ?_) fun e s' z => (hxe e s' z).elim)
      obtain ⟨it1, fp1, tn1, J1, H6, e, I6, T1, st6, f6, WI, ⟨n1, hn1, w6⟩, wi⟩ := h6
      subst e
      obtain ⟨hl4, hv4⟩ := wipe_back hw4
      have weak0 : ∀ {H' s'}, Inv X ([] ++ pinsAt fp s2.heap) σ4 H' s' → Inv X [] σ0 H' s' := fun {H' s'} J => (J.unpinned (pins := [])).weak hl4.symm fun j v e => hv4 j v e
      refine seg_call fun ppos => ?_
      refine seg_start1 T1 st6 ?_
      refine seg_inner (fp1 := fp1) (m := m) (Nx := fun n' H => W (i + 1) n' H) (pins := [] ++ pinsAt fp s2.heap) hgo ((GenW.over_loop rfl rfl).trans hXA) hco henv hcalm hxe hpn T1 hg1 he wi (fun H s J q => hF H s (weak0 J) q) 0 (fun n' n2 s₀' s' H' h1 h2 nx J => ?_) n1 n 0 s₀ s6 H6 (by omega) hn1 w6 I6 st6 f6
      have pin' : ∀ q ∈ fp, ∀ o, s2.heap.get? q = some o → s'.heap.get? q = some o ∧ H' q = none := fun q hb o e =>
        let z := J.pin (q, o) (List.mem_append_right _ (List.mem_append_right _ (mem_pinsAt hb e)))
        ⟨z.1, z.2.1⟩
      refine seg_again rfl (ih n' h1 n2 (i + 1) s₀' s' H' h2 nx (weak0 J) (T.keep _ _ _ st2 fun q' hb o e => (pin' q' hb o e).1) fun q' hb => ?_)
      obtain ⟨o, e, _⟩ := T.obj _ _ st2 q' hb
      exact (pin' q' hb o e).2
end
end AL
set_option Elab.async false
set_option linter.all false
set_option maxRecDepth 100000
set_option maxHeartbeats 4000000
namespace AL
open PySem PySem.Spec PyProof.Rows L2
open GxR (TabB TabG Tabbed inv_tab sh_eta)
/-- all(e for x in a for y in b) -/
def tQuant2 (K : PySem.W.Frag) (P : Addr) (d : Bool) (wi : TI) (g : TG) (wi1 : TI) (g1 : TG) (te : TE) (vs vs0 vs1 : List Nat) : TE := fun σ H Q => wi σ H fun J H1 => TabG H1 P ∧ ∀ H2, Tabbed P H1 H2 →
  ∃ W : Nat → Nat → Hp → Prop, (∃ m, W 0 m H2) ∧ W2 K J g wi1 g1 te (wipe σ vs) vs0 vs1 d (Q (.bl (!d))) (Q (.bl d)) W
section
variable {X : Cx} {c P : Addr} {elt tg iter tg1 iter1 : Expr} {scope : Scope} {own : List (Str × Nat)} {p pos gpos : Pos} {wi wi1 : TI} {g g1 : TG} {te : TE} {k : Nat} {vs0 vs1 : List Nat}
theorem pe_allG2 (hr : Room (k + 1) X.A) (hc : X.calm = true) (hN : X.N.Nodup) (hgl : Gl X "all") (hm : X.mg "all" = none) (TB : TabB X.base X.mg c P) (hcode : X.env.code = .ref c) (ok : GOk X.N X.env.scope scope own) (hi : PI X tg iter wi)
    (hg : ∀ (s : Shared) (H : Hp) (C : Addr) (cl : List (Str × Addr)) (code : Value) (fp : List Addr) (A : Around) (pn : List (Addr × Obj)), PG (gcx X s H (genEnv scope cl C code builtinsNs X.env) fp A pn) tg g)
    (hi1 : ∀ (s : Shared) (H : Hp) (C : Addr) (cl : List (Str × Addr)) (code : Value) (fp : List Addr) (A : Around) (pn : List (Addr × Obj)), Room k A → PI (gcx X s H (genEnv scope cl C code builtinsNs X.env) fp A pn) tg1 iter1 wi1)
    (hg1 : ∀ (s : Shared) (H : Hp) (C : Addr) (cl : List (Str × Addr)) (code : Value) (fp : List Addr) (A : Around) (pn : List (Addr × Obj)), PG (gcx X s H (genEnv scope cl C code builtinsNs X.env) fp A pn) tg1 g1)
    (he : ∀ (s : Shared) (H : Hp) (C : Addr) (cl : List (Str × Addr)) (code : Value) (fp : List Addr) (A : Around) (pn : List (Addr × Obj)), Room k A → PE (gcx X s H (genEnv scope cl C code builtinsNs X.env) fp A pn) elt te)
    (hs : ∀ v, genFold iter X.env v = pure v := by intro _; rfl) (hs1 : ∀ (C : Addr) (cl : List (Str × Addr)) (code : Value) v, foldedSetIterable iter1 (genEnv scope cl C code builtinsNs X.env) v = pure v := by intro _ _ _ _; rfl) (hb : bootBuiltins "all" = some (.builtin "all") := by decide +kernel)
    (hst : starEach [.GeneratorExp elt [⟨tg, iter, [], 0⟩, ⟨tg1, iter1, [], 0⟩] scope gpos] X.env = (false, eval (.GeneratorExp elt [⟨tg, iter, [], 0⟩, ⟨tg1, iter1, [], 0⟩] scope gpos) X.env) :: starEach [] X.env := by rfl) :
    PE X (.Call (.Name "all" p) [.GeneratorExp elt [⟨tg, iter, [], 0⟩, ⟨tg1, iter1, [], 0⟩] scope gpos] [] pos) (tQuant2 X.K P false wi g wi1 g1 te (own.map (·.2)) vs0 vs1) := by
  refine ⟨fun pins s σ H Q I h => ?_⟩
  refine wpAny_Call_Name_kw (ld_blt I hgl hm hb ?_)
  refine PyProof.Rows.callWith_builtin1 ?_ hst (by rfl)
  rw [hst]
  show wpAny _ _ (spliced ((false, eval (.GeneratorExp elt [⟨tg, iter, [], 0⟩, ⟨tg1, iter1, [], 0⟩] scope gpos) X.env) :: backTo pos (starEach [] X.env))) _ _ s
  refine Calls.spliced_cons (gen_made (own := own) (R := fun J H2 => ∃ W : Nat → Nat → Hp → Prop, (∃ m, W 0 m H2) ∧ W2 X.K J g wi1 g1 te (wipe σ (own.map fun x : Str × Nat => x.2)) vs0 vs1 false (Q (.bl (!false))) (Q (.bl false)) W) (d := false) (Q := Q)
    hr hc hN TB hcode ok hi hs I h (fun it fp tn J H3 s3 code a g0 go hR T hgen afp f3n back => ?_) fun a g0 n s5 hG => ?_)
  · obtain ⟨W, ⟨m, w0⟩, w1⟩ := hR
    refine ⟨m + 1, fun s' I' st' => ?_⟩
    exact seg_outer (X := gcx X s3 H3 (genEnv scope (cloFrom X.env.cells scope.names []) s3.heap.objs.size code builtinsNs X.env) fp (X.A.in1.in1.over (gcode elt [⟨tg, iter, [], 0⟩, ⟨tg1, iter1, [], 0⟩] scope gpos it (genEnv scope (cloFrom X.env.cells scope.names []) s3.heap.objs.size code builtinsNs X.env)) []) [(a, go)])
      (go := go) (QT := Q (.bl (!false))) (QF := Q (.bl false)) hgen rfl ok.co rfl hc (fun _ _ z => z) (List.mem_singleton.mpr rfl) (fun q hq b hb => by rw [List.mem_singleton.mp hq]; exact afp b hb) (fun b hb => hb)
      T (hg _ _ _ _ _ _ _ _) (hi1 _ _ _ _ _ _ _ _ (gcode_room hr)) (hs1 _ _ _) (hg1 _ _ _ _ _ _ _ _) (he _ _ _ _ _ _ _ _ (gcode_room hr)) w1 (fun H s I6 q => ⟨H, back H s I6, q⟩) (fun H s I6 q => ⟨H, back H s I6, q⟩) m (m + 1) 0 s' s' H3 (Nat.lt_succ_self m) w0 I' st' f3n
  refine Calls.spliced_nil ?_
  refine call_all_gen hr.hd hr.depth hG (fun s₁ s' hT hb' ho k' => ?_) (fun s₁ s' hF q => ?_) fun s ⟨H', J, _⟩ => J.bare
  · obtain ⟨H', J, q'⟩ := hT
    exact ⟨.bl true, H', inv_ext J ho hb' k', rfl, q'⟩
  · obtain ⟨H', J, q'⟩ := hF
    exact ⟨.bl false, H', inv_quietly J q, rfl, q'⟩
end
end AL
set_option Elab.async false
set_option linter.all false
set_option maxRecDepth 100000
set_option maxHeartbeats 4000000
namespace AL
open PySem PySem.Spec PyProof.Rows L2
open PySem.Froz (SD sObj tailTx addTx TxOk add_x add_ok)

/-- the payload can be walked -/
def WalkOk (w : World) (D : SD) : Prop := Ris D.2.2.place.toList ∧ (w.params.followText "set-order" = true ∨ D.2.2.led = true)
theorem walk_tail {w : World} {ep : Nat} {es1 : Array (Int × Value)} {t2 : SetTable} {b : Bool} (h1 : Ris t2.place.toList) (h2 : w.params.followText "set-order" = true ∨ t2.led = true) : WalkOk w (tailTx ep es1 t2 b) := by
  unfold tailTx
  split
  · exact ⟨relayAll_ris _ _ _, h2.imp id fun z => by rw [relayAll_led]; exact z⟩
  · exact ⟨h1, h2⟩
theorem walk_add {w : World} {D : SD} (h : Int) (v : Value) (W : WalkOk w D) : WalkOk w (addTx h v D) := by
  obtain ⟨W1, W2⟩ := W
  have r1 := layNew_ris D.2.2 D.1 h v W1
  have r2 : w.params.followText "set-order" = true ∨ (layNew D.2.2 D.1 h v).2.1.led = true := W2.imp id fun z => by rw [layNew_led]; exact z
  unfold addTx
  refine walk_tail ?_ ?_
  · split <;> exact r1
  · split <;> exact r2
/-- a set of texts at S: the texts l, each once -/
def SetS (P : Program) (w : World) (h : Heap) (S : Addr) (l : List Str) : Prop := ∃ D : SD, h.get? S = some (sObj "set" D) ∧ TxOk P w D l ∧ WalkOk w D ∧ l.Nodup
section
variable {P : Program} {w : World} {A : Around} {E : Value → Shared → Prop} {s : Shared}
theorem SetS.at {h h' : Heap} {S : Addr} {l : List Str} (R : SetS P w h S l) (k : ∀ o, h.get? S = some o → h'.get? S = some o) : SetS P w h' S l := by
  obtain ⟨D, a, b⟩ := R
  exact ⟨D, k _ a, b⟩
theorem setS_fresh {h : Heap} {S : Addr} (ho : h.get? S = some { cls := .type "set", dict := none, data := .set #[] 0 (.fresh 0 0 (!w.params.followText "set-order")) }) : SetS P w h S [] := by
  refine ⟨(#[], 0, .fresh 0 0 (!w.params.followText "set-order")), ho, Froz.TxOk.nil (by rfl), ⟨List.Pairwise.nil, ?_⟩, List.nodup_nil⟩
  show _ ∨ (!w.params.followText "set-order") = true
  cases w.params.followText "set-order"
  · exact .inr rfl
  · exact .inl rfl
/-- a text is put into it -/
theorem setS_add {a : Addr} {l : List Str} {k : Str} {u : Tok} {Q : Bool → Shared → Prop} (R : SetS P w s.heap a l) (hb : l.length + 1 < scanBound)
    (h : ∀ h' b, Heap.SameBut a s.heap h' → SetS P w h' a (if k ∈ l then l else k :: l) → Q b { s with heap := h' }) : wpAny (model P w) A (setAddHashed a (.str k u) (hashStr w k)) Q E s := by
  obtain ⟨D, ho, T, W, nd⟩ := R
  by_cases hk : k ∈ l
  · rw [if_pos hk] at h
    have goal := h s.heap false (Heap.SameBut.refl a s.heap) ⟨D, ho, T, W, nd⟩
    obtain ⟨es, ep, t⟩ := D
    have hkey : (strKind P w).is k (.str k u) = true := Froz.is_str k u
    have hsz : es.size = l.length := T.sz
    unfold setAddHashed setAddHashedIn
    refine wpAny_holding (wpAny_bind (wpAny_setState_of ho rfl T.fit ?_))
    dsimp only
    rw [byScan_of (x := Value.str k u) rfl (show es.size < scanBound by have : es.size = l.length := T.sz; omega) T.el]
    simp only [↓reduceIte]
    unfold setAddByScan
    refine wpAny_bind (wpAny_bind (wpAny_rule (wpAny_bind (wpAny_setScan_of (knd := strKind P w) (k := k) hkey ho rfl T.fit T.el ?_))))
    cases hfi : List.findIdx? (fun e => (strKind P w).is k e.2) es.toList with
    | none =>
      obtain ⟨e, he, q⟩ := (T.mem k).mp hk
      have c := List.findIdx?_eq_none_iff.mp hfi e he
      rw [q] at c
      cases c
    | some j =>
      dsimp only
      exact wpAny_pure (wpAny_pure goal)
  · rw [if_neg hk] at h
    refine add_x ho T hk hb (h _ true (Heap.SameBut.update s.heap a _) ⟨_, Froz.get_upd _ ho rfl, add_ok u T, walk_add _ _ W, List.nodup_cons.mpr ⟨hk, nd⟩⟩)
/-- what the loop has taken in -/
def took : List Str → List Str → List Str
  | [], l => l
  | k :: r, l => took r (if k ∈ l then l else k :: l)
theorem took_mem : ∀ (ss l : List Str) (k : Str), k ∈ took ss l ↔ k ∈ ss ∨ k ∈ l
  | [], l, k => by simp [took]
  | x :: r, l, k => by
    unfold took
    rw [took_mem r _ k, List.mem_cons]
    by_cases hx : x ∈ l
    · rw [if_pos hx]
      constructor
      · rintro (h | h)
        · exact .inl (.inr h)
        · exact .inr h
      · rintro ((h | h) | h)
        · exact .inr (h ▸ hx)
        · exact .inl h
        · exact .inr h
    · rw [if_neg hx, List.mem_cons]
      constructor
      · rintro (h | h | h)
        · exact .inl (.inr h)
        · exact .inl (.inl h)
        · exact .inr h
      · rintro ((h | h) | h)
        · exact .inr (.inl h)
        · exact .inl h
        · exact .inr (.inr h)
theorem took_len : ∀ (ss l : List Str), (took ss l).length ≤ ss.length + l.length
  | [], l => by simp [took]
  | x :: r, l => by
    unfold took
    have := took_len r (if x ∈ l then l else x :: l)
    split at this <;> split <;> simp only [List.length_cons] at * <;> first | omega | contradiction
theorem update_loop {I : Addr} {fp wr : List Addr} {G : Array GenState → Array GenState → Prop} {n : Nat} {Pv : Nat → Value → Prop} {St : Nat → Shared → Prop} {R : Result → Shared → Prop}
    (W : WalksS P w A.in1 I fp wr G n Pv St) (S : Addr) (hSf : S ∉ fp) (ss : List Str) (hn : n = ss.length) (hval : ∀ i v, Pv i v → ∃ k t, ss[i]? = some k ∧ v = .str k t) :
    ∀ (k i : Nat) (s : Shared) (l : List Str), n - i = k → i ≤ n → St i s → SetS P w s.heap S l → l.length + k + 1 < scanBound →
      (∀ s', Moved (S :: wr) G s s' → SetS P w s'.heap S (took (ss.drop i) l) → R (.ok (.ret .none)) s') →
      codeAny (model P w) A (.builtin "set.update.loop" ⟨[.ref S, .ref I], []⟩) R s := by
  have hSw : S ∉ wr := fun h => hSf (W.sub _ h)
  have hsub : ∀ b ∈ wr, b ∈ S :: wr := fun b hb => List.mem_cons_of_mem _ hb
  intro k
  induction k with
  | zero =>
    intro i s l hk hi hst hS _ hR
    obtain rfl : i = n := by omega
    refine codeAny_builtin F.entry_set_update_loop ?_
    rw [Around.under_plainId F.plain_set_update_loop _]
    show wpAny _ A.in1 (pyNext (.ref I) >>= _) _ _ s
    refine wpAny_bind (W.done s _ _ hst fun s' hm => wpAny_pure (hR s' (hm.mono hsub) ?_))
    rw [List.drop_of_length_le (by omega)]
    exact hS.at fun o e => hm.heap S o hSw e
  | succ k ih =>
    intro i s l hk hi hst hS hb hR
    have hlt : i < n := by omega
    refine codeAny_builtin F.entry_set_update_loop ?_
    rw [Around.under_plainId F.plain_set_update_loop _]
    show wpAny _ A.in1 (pyNext (.ref I) >>= _) _ _ s
    refine wpAny_bind (W.item i s _ _ hlt hst fun v s' hP hst' hm => ?_)
    obtain ⟨z, t, hz, rfl⟩ := hval i v hP
    have hS' : SetS P w s'.heap S l := hS.at fun o e => hm.heap S o hSw e
    show wpAny _ A.in1 (holding [Value.str z t] (setAdd S (.str z t)) >>= _) _ _ s'
    refine wpAny_bind (wpAny_holding ?_)
    unfold setAdd
    refine wpAny_holding (wpAny_bind ((strKind P w).pyHash (k := z) (Froz.is_str z t) ?_))
    refine setS_add (s := { s' with toks := s'.toks + 1 }) hS' (by omega) fun h' b hsb hS2 => ?_
    have hd : ss.drop i = z :: ss.drop (i + 1) := by
      obtain ⟨h1, h2⟩ := List.getElem?_eq_some_iff.mp hz
      rw [List.drop_eq_getElem_cons h1, h2]
    refine wpAny_pure ⟨plainId_quiet F.plain_set_update_loop _, ih (i + 1) _ _ (by omega) hlt (W.frame _ s' _ _ hst' (Nat.le_succ _) fun b hb o e => ?_) hS2 ?_ fun s'' hm'' hS'' => ?_⟩
    · rw [hsb.2 b (fun h : b = S => hSf (by rw [← h]; exact hb))]; exact e
    · split <;> (try simp only [List.length_cons]) <;> omega
    · refine hR s'' (Moved.trans W.gtrans ((hm.mono hsub).then_heap (Nat.le_succ _) fun b o hb e => ?_) hm'') ?_
      · rw [hsb.2 b (fun h : b = S => hb (by rw [h]; exact List.mem_cons_self))]; exact e
      · rw [hd]
        exact hS''
end
end AL
set_option Elab.async false
set_option linter.all false
set_option maxRecDepth 100000
set_option maxHeartbeats 4000000
namespace AL
open PySem PySem.Spec PyProof.Rows L2
open PySem.Froz (SD sObj tailTx addTx TxOk add_x add_ok)
section
variable {P : Program} {w : World} {A : Around} {E : Value → Shared → Prop} {s : Shared}
abbrev setObj0 (w : World) : Obj := { cls := .type "set", dict := none, data := .set #[] 0 (.fresh 0 0 (!w.params.followText "set-order")) }
theorem call_setS {l : Addr} {items : Array Value} {ss : List Str} {Q : Value → Shared → Prop} (hh : A.handled = none) (hl : s.heap.IsList l items) (hit : StrsAre items.toList ss) (hb : ss.length + 1 < scanBound)
    (h : ∀ (h' : Heap) (tk : Nat), SetS P w h' s.heap.objs.size (took ss []) → (∀ b o, s.heap.get? b = some o → h'.get? b = some o) → Q (.ref s.heap.objs.size) { s with heap := h', toks := tk }) :
    wpAny (model P w) A (call (.type "set") [.ref l]) Q E s := by
  have hisz : items.size = ss.length := by
    have q := StrsAre.length hit
    rw [Array.length_toList] at q
    exact q
  have hval : ∀ (i : Nat) (v : Value), items[i]? = some v → ∃ k t, ss[i]? = some k ∧ v = .str k t := fun i v hv => by
    have hi : i < ss.length := by rw [← hisz]; exact (Array.getElem?_eq_some_iff.mp hv).1
    obtain ⟨t, e⟩ := SS.strs_at hit i v (by rw [Array.getElem?_toList]; exact hv)
    refine ⟨ss[i], t, List.getElem?_eq_getElem hi, ?_⟩
    rw [e, List.getD_eq_getElem?_getD, List.getElem?_eq_getElem hi] <;> rfl
  obtain ⟨c, tl, hmro⟩ := F.called_set.mro
  have hmade := F.called_set.made
  have hsub := F.called_set.sub
  refine wpAny_call (codeAny_of_tree ?_)
  show wpAny _ _ (callAny (.type "set") _) _ _ _
  refine wpAny_pure ⟨Code.quiet_builtin _ (by decide +kernel), codeAny_builtin F.entry_type_call ?_⟩
  rw [Around.under_plain (weight_type_call_type "set" [.ref l] []) rfl]
  have h1 := F.called_set.notType
  have h2 := F.called_set.canCreate
  have hct := F.typeCall_set_1 (.ref l)
  repeat (any_goals (first | assumption | wp_step))
  refine codeAny_mono (code_set_led1 (.ref l) (E := E) (Q₁ := fun obj s₁ => obj = .ref s.heap.objs.size ∧ s₁ = { s with heap := s.heap.push (setObj0 w) }) ⟨rfl, rfl⟩) fun r s₁ hr => ?_
  cases r with
  | error e => exact hr
  | ok fl =>
    cases fl with
    | ret obj =>
      obtain ⟨rfl, rfl⟩ := hr
      have hS : (s.heap.push (setObj0 w)).get? s.heap.objs.size = some (setObj0 w) := Heap.get?_push_size _ rfl
      have hT : Shared.TypeIs { s with heap := s.heap.push (setObj0 w) } (.ref s.heap.objs.size) "set" := ⟨_, hS, rfl⟩
      have hli := F.called_set.init.lookup
      have hbi := F.called_set.init.bind (.ref s.heap.objs.size)
      repeat (any_goals (first | assumption | wp_step))
      refine codeAny_mono (codeAny_call_builtin (R := wants (fun r s₂ => r = .none ∧ ∃ h' tk, s₂ = { s with heap := h', toks := tk } ∧ SetS P w h' s.heap.objs.size (took ss []) ∧
          (∀ b o, s.heap.get? b = some o → h'.get? b = some o)) E) F.called_set.init.plain F.entry_set_init (check_set_init_1 hT ?_)) fun r₂ s₂ hr₂ => ?_
      · obtain ⟨ol, hol, hcl, nl, hdl⟩ := hl
        obtain ⟨ocls, odict, odata, oslots⟩ := ol
        simp only at hcl hdl
        subst hcl; subst hdl
        have hol' : (s.heap.push (setObj0 w)).get? l = some { cls := .type "list", dict := odict, data := .seq items nl, slots := oslots } := Heap.get?_push_of_some _ hol
        have hsls := F.sub_list_set
        have hslf := F.sub_list_frozenset
        have hne : (Value.type "list" == Value.type "dict") = false := by decide
        have hl1 : (s.heap.push (setObj0 w)).IsList l items := ⟨_, hol', rfl, nl, rfl⟩
        unfold Builtin.«set.__init__» noKeywords Builtin.Frozenset.updateFrom
        generalize hPI : pyIter = PI
        wp_walk
        subst hPI
        refine wpAny_pyIter_list hl1 ?_
        refine wpAny_bind (wpAny_runValue ?_)
        have hlS : l < s.heap.objs.size := Heap.lt_size hol
        have hh3 : A.in1.in1.in1.handled = none := by simp [hh]
        have hneI : l ≠ (s.heap.push (setObj0 w)).objs.size := by
          rw [Heap.size_push]; exact Nat.ne_of_lt (Nat.lt_succ_of_lt hlS)
        have hSf : s.heap.objs.size ∉ [(s.heap.push (setObj0 w)).objs.size, l] := by
          rw [Heap.size_push]; simp only [List.mem_cons, List.mem_singleton, List.not_mem_nil, or_false, not_or]
          exact ⟨Nat.ne_of_lt (Nat.lt_succ_self _), Nat.ne_of_gt hlS⟩
        refine update_loop ((Walks.list hh3 _ l hneI items).toS) s.heap.objs.size
          hSf ss hisz hval (items.size - 0) 0 _ [] (by omega) (Nat.zero_le _)
          ⟨⟨_, Heap.get?_push_size _ rfl, rfl, rfl⟩, (hl1.push _)⟩ (setS_fresh (Heap.get?_push_of_some _ hS)) (by rw [hisz]; simp only [List.length_nil]; omega) fun s' hm hS' => ?_
        obtain ⟨h', g2, d', tk', os'⟩ := s'
        have eg : g2 = s.gens := hm.gens
        have ed : d' = s.drawn := hm.drawn
        have eo : os' = s.os := hm.os
        subst eg; subst ed; subst eo
        show wpAny _ _ _ _ _ _
        refine wpAny_pure ?_
        show wpAny _ _ (ret Value.none) _ _ _
        refine wpAny_pure ⟨rfl, h', tk', rfl, hS', fun b o e => ?_⟩
        have hb0 : b < s.heap.objs.size := Heap.lt_size e
        have hb2 : b ≠ (s.heap.push (setObj0 w)).objs.size := by
          rw [Heap.size_push]; exact Nat.ne_of_lt (Nat.lt_succ_of_lt hb0)
        exact hm.heap b o (by simp only [List.mem_cons, List.mem_singleton, List.not_mem_nil, or_false, not_or]; exact ⟨Nat.ne_of_lt hb0, hb2⟩) (Heap.get?_push_of_some _ (Heap.get?_push_of_some _ e))
      · cases r₂ with
        | error e => exact hr₂
        | ok fl₂ =>
          cases fl₂ with
          | ret r =>
            obtain ⟨rfl, h', tk, rfl, hS', hk'⟩ := hr₂
            repeat (any_goals (first | assumption | wp_step))
            exact h _ _ hS' hk'
          | _ => exact hr₂.elim
    | _ => exact hr.elim
end
end AL
set_option Elab.async false
set_option linter.all false
set_option maxRecDepth 100000
set_option maxHeartbeats 4000000
namespace AL
open PySem PySem.Spec PyProof.Rows L2
open PySem.Froz (SD sObj tailTx addTx TxOk add_x add_ok)
/-- a list without doubles, within another of no more items: the same items -/
theorem perm_of_sub : ∀ (l m : List Str), l.Nodup → (∀ k ∈ l, k ∈ m) → m.length ≤ l.length → l.Perm m
  | [], m, _, _, h => by
    have : m = [] := List.length_eq_zero_iff.mp (by simpa using h)
    rw [this]
  | x :: l, m, nd, hs, h => by
    have hx : x ∈ m := hs x List.mem_cons_self
    have hp : m.Perm (x :: m.erase x) := List.perm_cons_erase hx
    have hnd := List.nodup_cons.mp nd
    refine List.Perm.trans (List.Perm.cons x (perm_of_sub l (m.erase x) hnd.2 (fun k hk => ?_) ?_)) hp.symm
    · have hk' := hp.mem_iff.mp (hs k (List.mem_cons_of_mem _ hk))
      rcases List.mem_cons.mp hk' with e | e
      · exact absurd (e ▸ hk) hnd.1
      · exact e
    · have := hp.length_eq
      simp only [List.length_cons] at this h
      omega
section
variable {P : Program} {w : World} {A : Around} {E : Value → Shared → Prop} {s : Shared}
theorem sorted_setS {a : Addr} {l : List Str} {Q : Value → Shared → Prop} (R : SetS P w s.heap a l) (hh : A.handled = none) (h64 : l.length < 64)
    (hQ : ∀ s' p (out : Array Value) (c : Nat) (ys : List Str), (∀ b o, s.heap.get? b = some o → s'.heap.get? b = some o) → s'.gens = s.gens → s'.os = s.os → s.heap.objs.size ≤ p →
      s'.heap.get? p = some (seqObj "list" out c) → StrsAre out.toList ys → ys.Perm l → sortedS ys = true → Q (.ref p) s') :
    wpAny (model P w) A (call (.builtin "sorted") [.ref a]) Q E s := by
  obtain ⟨⟨es, ep, t⟩, ho, T, ⟨W1, W2⟩, nd⟩ := R
  have hsz : es.size = l.length := T.sz
  have hb : es.size < scanBound := by unfold scanBound; omega
  refine Calls.call_function_entry kind_sorted plain_sorted entry_sorted (args_sorted1 _) ?_
  unfold Builtin.«sorted»
  refine wpAny_bind (m := checkCount "sorted" 1 1 _) (wpAny_pure ?_)
  refine wpAny_bind (collect_set (A := A.in1) hh ⟨_, ho, rfl, rfl⟩ T.fit hb W1 W2 fun s1 vs k1 hz g1 o1 pm => ?_)
  have hvl : vs.length = l.length := by rw [pm.length_eq, List.length_map, Array.length_toList]; exact hsz
  have hstr : ∀ v ∈ vs, ∃ x t, v = Value.str x t := fun v hv => by
    obtain ⟨e, he, q⟩ := List.mem_map.mp (pm.mem_iff.mp hv)
    obtain ⟨⟨k, hk, _⟩, _⟩ := T.el e he
    obtain ⟨tk, z⟩ := Value.isStrOf_shape (x := k) (v := e.2) hk
    exact ⟨k, tk, by rw [← q]; exact z⟩
  have hS : StrsAre vs (vs.map strOf) := strsAre_map vs hstr
  have hperm : l.Perm (vs.map strOf) := by
    refine perm_of_sub l _ nd (fun k hk => ?_) (by rw [List.length_map, hvl]; exact Nat.le_refl _)
    obtain ⟨e, he, q⟩ := (T.mem k).mp hk
    obtain ⟨tk, z⟩ := Value.isStrOf_shape (x := k) (v := e.2) q
    refine List.mem_map.mpr ⟨e.2, pm.mem_iff.mpr (List.mem_map.mpr ⟨e, he, rfl⟩), ?_⟩
    rw [z] <;> rfl
  refine wpAny_bind (wpAny_newList ?_ (by rw [hvl, sizeLine_eq]; omega))
  have hoL : (s1.heap.push (seqObj "list" vs.toArray 0)).get? s1.heap.objs.size = some (seqObj "list" vs.toArray 0) := Heap.get?_push_size _ rfl
  refine wpAny_bind (wpAny_holding (wpAny_call_entry slot_list_sort ⟨_, hoL, rfl⟩ entry_list_sort
    (list_sort_treeK strKind_oneLt hoL hS.keysOf (fun v₁ v₂ rest e => keyKind_strs (by rw [← e]; exact hS)) (by rw [hvl]; exact h64) fun st' hp hs => ⟨_, rfl, ?_⟩) (args_list_sort _)))
  obtain ⟨ys, g3, g4, g5⟩ := sorted_out_str hS hp hs
  obtain ⟨c, hc⟩ := sortedHeap_at (vs := vs) (out := (arrOf st').map (·.2)) hoL
  refine wpAny_pure ⟨_, rfl, hQ _ s1.heap.objs.size _ c ys (fun b u e => ?_) g1 o1 hz hc g3 (g4.trans hperm.symm) g5⟩
  have q := k1 b u e
  have hlt := Heap.lt_size q
  show (sortedHeap (s1.heap.push (seqObj "list" vs.toArray 0)) s1.heap.objs.size vs _).get? b = some u
  rw [sortedHeap_old (Nat.ne_of_lt hlt) (by rw [size_push']; exact Nat.lt_succ_of_lt hlt)]
  exact Heap.get?_push_of_some _ q
end
section
variable {X : Cx}
/-- sorted(set(e)), e a list of texts, fewer than 64: each once, in order -/
def tSortSet (K : PySem.W.Frag) (ta : TE) : TE := fun σ H Q => ta σ H fun x H1 => ∃ (l : Addr) (xs : List Str), x = .ref l ∧ SqL K H1 l (xs.map V.str) ∧ xs.length < 64 ∧
  ∀ (ys : List Str) (p : Addr), sortedS ys = true → ys.Nodup → (∀ k, k ∈ ys ↔ k ∈ xs) → H1 p = none → Q (.ref p) (upd H1 p (.lst (ys.map V.str)))
theorem pe_sortSet {a : Expr} {ta : TE} {p p2 q pos : Pos} (hc : X.calm = true) (hg : Gl X "sorted") (hm : X.mg "sorted" = none) (hg2 : Gl X "set") (hm2 : X.mg "set" = none) (ha : PE X a ta)
    (hb : bootBuiltins "sorted" = some (.builtin "sorted") := by decide +kernel) (hb2 : bootBuiltins "set" = some (.type "set") := by decide +kernel)
    (he : starEach [.Call (.Name "set" p2) [a] [] q] X.env = (false, eval (.Call (.Name "set" p2) [a] [] q) X.env) :: starEach [] X.env := by rfl)
    (he2 : starEach [a] X.env = (false, eval a X.env) :: starEach [] X.env := by rfl) :
    PE X (.Call (.Name "sorted" p) [.Call (.Name "set" p2) [a] [] q] [] pos) (tSortSet X.K ta) := by
  refine ⟨fun pins s σ H Q I h => ?_⟩
  refine wpAny_Call_Name_kw (ld_blt I hg hm hb ?_)
  refine PyProof.Rows.callWith_builtin1 ?_ he (by rfl)
  rw [he]
  show wpAny _ _ (spliced ((false, eval (.Call (.Name "set" p2) [a] [] q) X.env) :: backTo pos (starEach [] X.env))) _ _ s
  refine Calls.spliced_cons ?_
  refine wpAny_Call_Name_kw (ld_blt I hg2 hm2 hb2 ?_)
  refine PyProof.Rows.callWith_type1 ?_ he2 (by rfl)
  rw [he2]
  show wpAny _ _ (spliced ((false, eval a X.env) :: backTo q (starEach [] X.env))) _ _ s
  refine Calls.spliced_cons (thn (ha.run pins s σ H _ I h) fun u s1 ⟨x, H1, I1, r1, l, xs, ex, hs, h64, q1⟩ => Calls.spliced_nil ?_)
  subst ex
  obtain rfl : u = Value.ref l := r1
  obtain ⟨its, rv, hl, _⟩ := I1.list hs
  have hlen : its.length = xs.length := by
    have z := rv.length
    rw [List.length_map] at z
    exact z.symm
  have hh := I1.ok.hd hc
  refine call_setS hh hl.isList (rv.strs) (by unfold scanBound; omega) fun h' tk R k => ?_
  have I2 : Inv X pins σ H1 { s1 with heap := h', toks := tk } := I1.kept k
  refine Calls.spliced_nil ?_
  have hR64 : (took xs []).length < 64 := by
    have := took_len xs []
    simp only [List.length_nil] at this
    omega
  refine sorted_setS (s := { s1 with heap := h', toks := tk }) R hh hR64 fun s' p out c ys k2 g o hp hg3 hi hperm hsort => ?_
  have hlen2 : (ys.map V.str).length ≤ sizeLine := by rw [List.length_map, hperm.length_eq]; exact small64 hR64
  have hn : H1 p = none := I2.hok.fresh hp
  have J : Inv X pins σ (upd H1 p (.lst (ys.map V.str))) { ({ s1 with heap := h', toks := tk } : Shared) with heap := s'.heap, gens := s'.gens, drawn := s'.drawn, toks := s'.toks } :=
    I2.call (ch := []) (Un.laid k2 hp hn) (I2.hok.laid k2 hp ⟨hlen2, out.toList, c, vals_of_strs hi, hg3⟩) (by rw [g]; exact I2.bare) (fun _ z => nomatch z)
  have e : s' = { ({ s1 with heap := h', toks := tk } : Shared) with heap := s'.heap, gens := s'.gens, drawn := s'.drawn, toks := s'.toks } := by
    cases s'
    cases s1
    cases o
    rfl
  rw [e]
  refine ⟨.ref p, _, J, rfl, q1 ys p hsort (hperm.nodup_iff.mpr ?_) (fun k => ?_) hn⟩
  · obtain ⟨_, _, _, _, nd⟩ := R
    exact nd
  · rw [hperm.mem_iff, took_mem]
    simp
end
end AL
set_option Elab.async false
set_option linter.all false
set_option maxRecDepth 100000
set_option maxHeartbeats 4000000
namespace AL
open PySem PySem.Spec PyProof.Rows L2

/-! ### the order of texts -/
def sLt (a b : Str) : Prop := a.cps.toList < b.cps.toList
instance (a b : Str) : Decidable (sLt a b) := inferInstanceAs (Decidable (a.cps.toList < b.cps.toList))
theorem sLt_trans' {a b c : Str} (h1 : ¬ sLt b a) (h2 : ¬ sLt c b) : ¬ sLt c a := List.le_trans (show a.cps.toList ≤ b.cps.toList from h1) h2
theorem str_ext {a b : Str} (h : a.cps.toList = b.cps.toList) : a = b := by
  cases a; cases b
  congr 1
  exact Array.toList_inj.mp h
theorem sLt_tri {a b : Str} (h1 : ¬ sLt b a) (h2 : ¬ sLt a b) : a = b := str_ext (List.le_antisymm (show a.cps.toList ≤ b.cps.toList from h1) h2)
theorem sLt_irrefl (a : Str) : ¬ sLt a a := List.lt_irrefl _
theorem sLt_asymm {a b : Str} (h : sLt a b) : ¬ sLt b a := fun h2 => by
  have := List.lt_trans (show a.cps.toList < b.cps.toList from h) h2
  exact List.lt_irrefl _ this
theorem sLt_tr {a b c : Str} (h : sLt a b) (h2 : sLt b c) : sLt a c := List.lt_trans (show a.cps.toList < b.cps.toList from h) h2

/-! ### min(d), the keys texts -/
theorem argBest_str (f : Nat → Str) : ∀ k, argBest (fun i j => decide (sLt (f i) (f j))) k ≤ k ∧ ∀ j, j ≤ k → ¬ sLt (f j) (f (argBest (fun i j => decide (sLt (f i) (f j))) k))
  | 0 => ⟨Nat.le_refl _, fun j hj => by
    have : j = 0 := by omega
    subst this
    exact sLt_irrefl _⟩
  | k + 1 => by
    obtain ⟨h1, h2⟩ := argBest_str f k
    simp only [argBest]
    by_cases hc : sLt (f (k + 1)) (f (argBest (fun i j => decide (sLt (f i) (f j))) k))
    · rw [if_pos (by simpa using hc)]
      refine ⟨Nat.le_refl _, fun j hj => ?_⟩
      rcases Nat.lt_or_ge j (k + 1) with hlt | hge
      · exact fun z => h2 j (by omega) (sLt_tr z hc)
      · have : j = k + 1 := by omega
        subst this
        exact sLt_irrefl _
    · rw [if_neg (by simpa using hc)]
      refine ⟨by omega, fun j hj => ?_⟩
      rcases Nat.lt_or_ge j (k + 1) with hlt | hge
      · exact h2 j (by omega)
      · have : j = k + 1 := by omega
        subst this
        exact hc
theorem cmp_strs {prog : Program} {w : World} {A : Around} {P : Nat → Value → Prop} (val : Nat → Str) (hval : ∀ i v, P i v → ∃ t, v = .str (val i) t) : CmpOf prog w A .Lt P (fun i j => decide (sLt (val i) (val j))) := fun i j vi vj s Q E hi hj h => by
  obtain ⟨t, rfl⟩ := hval i vi hi
  obtain ⟨u, rfl⟩ := hval j vj hj
  exact PySem.P.lt_str h
section
variable {X : Cx}
/-- min(d), d a dict whose keys are texts, one at least -/
theorem call_minD (hc : X.calm = true) : CallR X (.builtin "min") (fun xs H Q => ∃ (a : Addr) (kvs : List (Key × V)) (ks : List Str), xs = [.ref a] ∧ Rd H a (.dK kvs) ∧ kvs.map (·.1) = ks.map Sum.inr ∧ ks ≠ [] ∧ ∀ m, m ∈ ks → (∀ k ∈ ks, ¬ sLt k m) → Q (.str m) H) := by
  intro pins s σ H xs us Q I r h
  obtain ⟨a, kvs, ks, rfl, ha, hks, hne, q⟩ := h
  rw [Vals.ref1 r]
  obtain ⟨_, hsys, vs, rel, dof⟩ := dk_rd I.hok ha
  obtain ⟨ep, dat⟩ := dof.dictAt
  have dat' := dat
  obtain ⟨ob, es, ho, ex, hdat, hko, hpr, hnd⟩ := dat'
  have hlv : vs.length = ks.length := by
    have e1 := congrArg List.length hks
    rw [List.length_map, List.length_map] at e1
    rw [← e1]
    exact (KV.length rel).symm
  have hlen : 0 < vs.length := by
    rw [hlv]
    exact List.length_pos_iff.mpr hne
  have keyAt : ∀ (i : Nat) (k : Key) (v : Value), vs[i]? = some (k, v) → ∃ x : Str, ks[i]? = some x ∧ k = .inr x := fun i k v hk => by
    obtain ⟨x, h1, h2⟩ := KV.at' rel hk
    have e1 : (kvs.map (·.1))[i]? = some k := by rw [List.getElem?_map, h1] <;> rfl
    rw [hks, List.getElem?_map] at e1
    obtain ⟨j, hj, e2⟩ := Option.map_eq_some_iff.mp e1
    exact ⟨j, hj, e2.symm⟩
  have hval : ∀ (i : Nat) (v : Value), (∃ k x, vs[i]? = some (k, x) ∧ (mixKind X.prog X.w).is k v = true) → ∃ t, v = Value.str (ks.getD i Str.empty) t := fun i v ⟨k, x, hk, hv⟩ => by
    obtain ⟨z, hz, rfl⟩ := keyAt i k x hk
    obtain ⟨t, e⟩ := Value.isStrOf_shape (x := z) (v := v) hv
    refine ⟨t, ?_⟩
    rw [e, List.getD_eq_getElem?_getD, hz] <;> rfl
  have hlt : a < s.heap.objs.size := Heap.lt_size ho
  refine call_min_walk (wpAny_pyIter_dict hsys dat ?_)
  refine ⟨_, _, _, _, _, _, _, rfl, Walks.dictKeys (knd := mixKind X.prog X.w) (A := X.A.in1) (I.ok.hd hc) s.heap.objs.size a (Nat.ne_of_lt hlt) vs ep,
    ⟨⟨_, Heap.get?_push_size _ rfl, rfl, rfl⟩, dat.keep fun b u e => Heap.get?_push_of_some _ e⟩, fun b hb => ?_, hlen, cmp_strs (fun i => ks.getD i Str.empty) hval, fun v h' tk hP hk => ?_⟩
  · show b < (s.heap.push _).objs.size
    rw [Heap.size_push]
    rcases List.mem_cons.mp hb with e | hb
    · rw [e]
      exact Nat.lt_succ_self _
    · have e : b = a := List.mem_singleton.mp hb
      rw [e]
      exact Nat.lt_succ_of_lt hlt
  · obtain ⟨t, rfl⟩ := hval _ v hP
    obtain ⟨b1, b2⟩ := argBest_str (fun i => ks.getD i Str.empty) (vs.length - 1)
    refine ⟨.str _, H, I.kept (t' := tk) fun b u e => hk b u (fun hmem => ?_) (Heap.get?_push_of_some _ e), ⟨t, rfl⟩, q _ ?_ fun j hj => ?_⟩
    · have e1 : b = s.heap.objs.size := List.mem_singleton.mp hmem
      have e2 := Heap.lt_size e
      rw [e1] at e2
      exact absurd e2 (Nat.lt_irrefl _)
    · have hb : argBest (fun i j => decide (sLt (ks.getD i Str.empty) (ks.getD j Str.empty))) (vs.length - 1) < ks.length := by omega
      rw [List.getD_eq_getElem?_getD, List.getElem?_eq_getElem hb]
      exact List.getElem_mem hb
    · obtain ⟨i, hi, e⟩ := List.mem_iff_getElem.mp hj
      have e2 : ks.getD i Str.empty = j := by rw [List.getD_eq_getElem?_getD, List.getElem?_eq_getElem hi, ← e] <;> rfl
      rw [← e2]
      exact b2 i (by omega)

/-! ### a ** b of a great base -/
theorem op_powW : OpR X (binaryOp .Pow) (rI (fun i j => 0 ≤ j ∧ ((Builtin.Int.intBits i : Nat) : Int) * j ≤ 2 ^ 27) fun i j => .int (i ^ j.toNat)) := opI fun _ _ _ _ _ _ _ hc q => PyProof.Rows.pow_int hc.1 hc.2 q

/-! ### xs.count(t), xs a list of texts -/
theorem strEq_cps (a b : Str) : (a.cps.toList == b.cps.toList) = (a == b) := by
  by_cases h : a = b
  · subst h
    rw [beq_self_eq_true, beq_self_eq_true]
  · have h2 : ¬ a.cps.toList = b.cps.toList := fun z => h (str_ext z)
    rw [beq_eq_false_iff_ne.mpr h, beq_eq_false_iff_ne.mpr h2]
def eqS (k : Str) (v : Value) : Bool := match v with
  | .str n _ => n == k
  | _ => false
theorem eqS_gives {k : Str} {t : Tok} : ∀ {us : List Value} {ns : List Str}, StrsAre us ns → ∀ y ∈ us, MeetsSeq.EqGives y (.str k t) (eqS k y)
  | _, _, .nil => fun y hy => by cases hy
  | _, _, .cons n t' h => fun y hy => by
    rcases List.mem_cons.mp hy with e | e
    · rw [e]
      have q := SeqRoads2.EqGives.str n k t' t
      rw [strEq_cps] at q
      exact q
    · exact eqS_gives h y e
theorem eqS_count {k : Str} : ∀ {us : List Value} {ns : List Str}, StrsAre us ns → us.countP (eqS k) = ns.count k
  | _, _, .nil => rfl
  | _, _, .cons n t' h => by
    rw [List.countP_cons, List.count_cons, eqS_count h]
    rfl
theorem mt_countS : MtR X "list.count" (fun x xs H Q => ∃ (p : Addr) (ns : List Str) (k : Str), x = .ref p ∧ xs = [.str k] ∧ SqL X.K H p (ns.map V.str) ∧ Q (.int (ns.count k : Nat)) H) := by
  intro pins s σ H x xs v us Q I rx rxs h
  obtain ⟨p, ns, k, rfl, rfl, hs, q⟩ := h
  cases rx
  obtain ⟨u, rfl, ru⟩ := rxs.one
  obtain ⟨t, rfl⟩ := ru
  obtain ⟨its, rv, ⟨⟨cls, dd, data, sl⟩, n, ho, hc, hdn, hd⟩, hlen⟩ := I.list hs
  simp only at hc hd
  subst hc hd
  have hi := rv.strs
  refine call_meets PySem.F.slot_list_count ⟨_, ho, rfl⟩ PySem.F.entry_list_count (PySem.F.args_list_count_2 _ _)
    (SeqAt.list_countAt p its.toArray n dd sl (.str k t) (eqS k)) ⟨ho, fun y hy => (eqS_gives hi y (by simpa using hy)).at _ _, ?_⟩
  have ec : its.toArray.toList.countP (eqS k) = ns.count k := eqS_count hi
  refine ⟨.int (ns.count k : Nat), H, I.tok _, ⟨s.toks, ?_⟩, q⟩
  show Value.int ((its.toArray.toList.countP (eqS k) : Nat) : Int) s.toks = Value.int ((ns.count k : Nat) : Int) s.toks
  rw [ec]

/-! ### list(t), t a text -/
theorem vals_get : ∀ {xs : List V} {us : List Value}, xs.length = us.length → (∀ (i : Nat) (x : V) (v : Value), xs[i]? = some x → us[i]? = some v → RelV x v) → Vals xs us
  | [], [], _, _ => .nil
  | [], _ :: _, h, _ => by cases h
  | _ :: _, [], h, _ => by cases h
  | x :: xs, u :: us, h, f => .cons (f 0 x u rfl rfl) (vals_get (by simpa using h) fun i y v e1 e2 => f (i + 1) y v (by simpa using e1) (by simpa using e2))
theorem call_listT (hc : X.calm = true) : CallR X (.type "list") (fun xs H Q => ∃ z : Str, xs = [.str z] ∧ z.cps.size ≤ sizeLine ∧ ∀ l, H l = none → Q (.ref l) (upd H l (.lst (z.cps.toList.map fun c => V.str ⟨#[c]⟩)))) := by
  intro pins s σ H xs us Q I r h
  obtain ⟨z, rfl, hz, q⟩ := h
  obtain ⟨u, rfl, rx⟩ := vals1 r
  obtain ⟨t, rfl⟩ := rx
  refine call_list_str (hn := hz) (I.ok.hd hc) z t fun h' tk acc c kp he hi => ?_
  have hv : Vals (z.cps.toList.map fun c => V.str ⟨#[c]⟩) acc.toList := by
    obtain ⟨h1, h2⟩ := hi
    refine vals_get (by rw [List.length_map, Array.length_toList, Array.length_toList, h1]) fun i x v ex ev => ?_
    rw [List.getElem?_map, Array.getElem?_toList] at ex
    rw [Array.getElem?_toList] at ev
    obtain ⟨cc, u, e1, e2⟩ := h2 i v ev
    rw [e1] at ex
    have ex : V.str ⟨#[cc]⟩ = x := Option.some.inj ex
    rw [← ex, e2]
    exact ⟨u, rfl⟩
  exact ⟨.ref s.heap.objs.size, _, I.laid (o := .lst (z.cps.toList.map fun c => V.str ⟨#[c]⟩)) (t' := tk) kp (Nat.le_refl _) ⟨by rw [List.length_map, Array.length_toList]; exact hz, acc.toList, c, hv, he⟩, rfl, q _ (I.hok.fresh (Nat.le_refl _))⟩
end
end AL
set_option Elab.async false
set_option linter.all false
set_option maxRecDepth 100000
set_option maxHeartbeats 4000000
namespace AL
open PySem PySem.Spec PyProof.Rows L2
def keyD : Key → PyData
  | .inl i => .int i
  | .inr x => .str x
mutual
/-- x is the datum d, over tracked lists, tuples, dicts -/
inductive Dat (H : Hp) : V → PyData → Prop
  | non : Dat H .non .none
  | bl (b : Bool) : Dat H (.bl b) (.bool b)
  | int (i : Int) : Dat H (.int i) (.int i)
  | str (x : Str) : Dat H (.str x) (.str x)
  | lst {a : Addr} {xs : List V} {ds : List PyData} : Rd H a (.lst xs) → Dats H xs ds → Dat H (.ref a) (.list ds)
  | tup {a : Addr} {xs : List V} {ds : List PyData} : Rd H a (.tup xs) → Dats H xs ds → Dat H (.ref a) (.tuple ds)
  | dic {a : Addr} {kvs : List (Key × V)} {ds : List PyData} : Rd H a (.dK kvs) → Dats H (kvs.map (·.2)) ds → Dat H (.ref a) (.dict ((kvs.map fun q => keyD q.1).zip ds))
inductive Dats (H : Hp) : List V → List PyData → Prop
  | nil : Dats H [] []
  | cons {x : V} {xs : List V} {d : PyData} {ds : List PyData} : Dat H x d → Dats H xs ds → Dats H (x :: xs) (d :: ds)
end
theorem Dats.len {H : Hp} : ∀ {xs : List V} {ds : List PyData}, Dats H xs ds → xs.length = ds.length
  | _, _, .nil => rfl
  | _, _, .cons _ t => by simp [Dats.len t]
theorem Dats.of {H : Hp} {α : Type} (f : α → V) (g : α → PyData) : ∀ (l : List α), (∀ x ∈ l, Dat H (f x) (g x)) → Dats H (l.map f) (l.map g)
  | [], _ => .nil
  | x :: l, h => .cons (h x List.mem_cons_self) (Dats.of f g l fun y hy => h y (List.mem_cons_of_mem _ hy))
theorem Dats.strs {H : Hp} (l : List Str) : Dats H (l.map V.str) (l.map PyData.str) := Dats.of _ _ l fun x _ => .str x

/-- what is read at a: tracked, no other thing -/
def TrkD (H : Hp) (a : Addr) : Prop := (∃ xs, Rd H a (.lst xs)) ∨ ∃ kvs, Rd H a (.dK kvs)
section
variable {P : Program} {w : World} {H : Hp} {h : Heap}
theorem pairs_keys : ∀ {es : List DictEntry} {vs : List (Key × Value)}, Pairs (mixKind P w) es vs → ReadsAll h (es.map (·.key)) (vs.map fun q => keyD q.1) []
  | _, _, .nil => .nil
  | _, _, .cons (kv := kv) hk hv t => by
    have r : ReadsAll h _ _ [] := pairs_keys t
    refine ReadsAll.cons (as := []) ?_ r
    obtain ⟨k, v⟩ := kv
    rcases keyIs_shape (show keyIs k _ = true from hk) with ⟨i, t, e1, e2⟩ | ⟨x, t, e1, e2⟩
    · have e1 : k = Sum.inl i := e1
      subst e1
      dsimp only
      rw [e2]
      exact .int i t
    · have e1 : k = Sum.inr x := e1
      subst e1
      dsimp only
      rw [e2]
      exact .str x t
theorem pairs_vals : ∀ {es : List DictEntry} {vs : List (Key × Value)}, Pairs (mixKind P w) es vs → es.map (·.val) = vs.map (·.2)
  | _, _, .nil => rfl
  | _, _, .cons hk hv t => by rw [List.map_cons, List.map_cons, hv, pairs_vals t]
theorem kv_keys : ∀ {kvs : List (Key × V)} {vs : List (Key × Value)}, KV kvs vs → (kvs.map fun q => keyD q.1) = vs.map fun q => keyD q.1
  | _, _, .nil => rfl
  | _, _, .cons r t => by rw [List.map_cons, List.map_cons, r.1, kv_keys t]
theorem kv_vals : ∀ {kvs : List (Key × V)} {vs : List (Key × Value)}, KV kvs vs → Vals (kvs.map (·.2)) (vs.map (·.2))
  | _, _, .nil => .nil
  | _, _, .cons r t => .cons r.2 (kv_vals t)
mutual
theorem dat_reads (ok : HOk P w H h) : ∀ {x : V} {d : PyData}, Dat H x d → ∀ {u : Value}, RelV x u → ∃ as, Reads h u d as ∧ ∀ a ∈ as, TrkD H a
  | _, _, .non, u, r => by cases r; exact ⟨[], .none, fun _ z => nomatch z⟩
  | _, _, .bl b, u, r => by cases r; exact ⟨[], .bool b, fun _ z => nomatch z⟩
  | _, _, .int i, u, r => by obtain ⟨t, rfl⟩ := r; exact ⟨[], .int i t, fun _ z => nomatch z⟩
  | _, _, .str x, u, r => by obtain ⟨t, rfl⟩ := r; exact ⟨[], .str x t, fun _ z => nomatch z⟩
  | _, _, .lst ha hd, u, r => by
    cases r
    obtain ⟨z, its, n, rv, e⟩ := Rd.ok ha ok
    obtain ⟨as, ra, ta⟩ := dats_reads ok hd rv
    exact ⟨_ :: as, .list e rfl rfl ra, fun b hb => by
      rcases List.mem_cons.mp hb with q | q
      · rw [q]
        exact .inl ⟨_, ha⟩
      · exact ta b q⟩
  | _, _, .tup ha hd, u, r => by
    cases r
    obtain ⟨z, its, rv, o, e, c, n, dd⟩ := Rd.ok ha ok
    obtain ⟨as, ra, ta⟩ := dats_reads ok hd rv
    exact ⟨as, .tuple e c dd (by simpa using ra), ta⟩
  | _, _, .dic (kvs := kvs) (ds := ds) ha hd, u, r => by
    cases r
    obtain ⟨z, hsys, vs, rel, o, es, ep, e, ex, dd, _, pr, _⟩ := dk_rd ok ha
    obtain ⟨as, ra, ta⟩ := dats_reads ok hd (kv_vals rel)
    have hl : (kvs.map fun q => keyD q.1).length = ds.length := by
      have := Dats.len hd
      simpa using this
    refine ⟨_ :: [] ++ as, .dict e ex.1 dd ?_ ?_, fun b hb => ?_⟩
    · rw [List.map_fst_zip (Nat.le_of_eq hl), kv_keys rel]
      exact pairs_keys pr
    · rw [List.map_snd_zip (Nat.le_of_eq hl.symm), pairs_vals pr]
      exact ra
    · rcases List.mem_cons.mp hb with q | q
      · rw [q]
        exact .inr ⟨_, ha⟩
      · exact ta b q
theorem dats_reads (ok : HOk P w H h) : ∀ {xs : List V} {ds : List PyData}, Dats H xs ds → ∀ {us : List Value}, Vals xs us → ∃ as, ReadsAll h us ds as ∧ ∀ a ∈ as, TrkD H a
  | _, _, .nil, us, r => by cases r; exact ⟨[], .nil, fun _ z => nomatch z⟩
  | _, _, .cons hd ht, us, r => by
    cases r with
    | cons r1 r2 =>
      obtain ⟨as, ra, ta⟩ := dat_reads ok hd r1
      obtain ⟨bs, rb, tb⟩ := dats_reads ok ht r2
      exact ⟨as ++ bs, .cons ra rb, fun b hb => (List.mem_append.mp hb).elim (ta b) (tb b)⟩
end
end
/-- sys.modules is out of reach -/
def SysOk (H : Hp) : Prop := ∃ o φ, H sysModules = some (.frz o (.ext φ))
theorem sys_out {H : Hp} (hs : SysOk H) {a : Addr} (ht : TrkD H a) : a ≠ sysModules := fun e => by
  obtain ⟨o, φ, hs⟩ := hs
  subst e
  rcases ht with ⟨xs, h | ⟨o', h⟩⟩ | ⟨xs, h | ⟨o', h⟩⟩ <;> rw [hs] at h <;> cases h
section
variable {X : Cx}
/-- repr(x), x a list, a tuple, a dict -/
def rRepr : List V → Hp → VK → Prop := fun xs H Q => ∃ (a : Addr) (d : PyData), xs = [.ref a] ∧ SysOk H ∧ Dat H (.ref a) d ∧ d.showable = true ∧ d.depth ≤ 60 ∧ d.shown.length ≤ sizeLine ∧ Q (.str d.shown) H
theorem call_reprD {k : Nat} (hr : Room k X.A) (hgd : X.A.guards = some []) : CallR X (.builtin "repr") rRepr := by
  intro pins s σ H xs us Q I r h
  obtain ⟨a, d, rfl, hs, hd, h1, h2, h3, q⟩ := h
  rw [Vals.ref1 r]
  obtain ⟨as, ra, ta⟩ := dat_reads I.hok hd (u := .ref a) rfl
  refine repr_of_reads' ra h1 (fun _ hm => sys_out hs (ta _ hm) rfl) hgd (by have := hr.un; omega) (fun b o e => e) (fun h' u tk k => ?_) h3
  exact ⟨.str d.shown, H, I.kept (t' := tk) k, ⟨u, rfl⟩, q⟩
end
end AL
set_option Elab.async false
set_option linter.all false
set_option maxRecDepth 100000
set_option maxHeartbeats 4000000
namespace AL
open PySem PySem.Spec PyProof.Rows L2
open GxR (TabB TabG Tabbed)
/-! ### promises that lean on the guards -/
/-- as FnOk, for callers with no repr under way -/
structure FnG (P : Program) (w : World) (K : PySem.W.Frag) (mg : Str → Option Value) (base : Heap) (CX : CXT) (k : Nat) (f : Addr) (fd : FuncData) (ps : List Str) (sp : Sp) : Prop where
  len : ∀ vs H Q E, sp vs H Q E → vs.length = ps.length
  run : ∀ (A : Around) (outer : List Env) (s : Shared) (H : Hp) (args : Args) (us : List Value) (vs : List V) (Q : VK) (E : XK), A.guards = some [] → Room k A → Env0 P w K mg base A outer s H → BindsTo s fd args (ps.zip us) → Vals vs us → sp vs H Q E →
    codeAny (model P w) A (.call (.ref f) args) (CR CX outer P w H s Q E) s
section
variable {P : Program} {w : World} {K : PySem.W.Frag} {mg : Str → Option Value} {base : Heap} {k : Nat} {f : Addr} {fd : FuncData}
theorem fnG_of {CX : CXT} {name qual : Str} {params : Arguments} {body : List Stmt} {scope : Scope} {dV kV doc pm cdv ct oc : Value} {an od : Option Addr}
    {osl : Array (Option Value)} {N ps : List Str} {sp : Sp} (lk : K.lookup f = some ⟨oc, od, .func (PySem.W.fnOf name qual params body scope dV kV doc pm an cdv ct), osl⟩) (hcd : PySem.W.codeIn K cdv qual = true) (S : FnScope N ps scope)
    (len : ∀ vs H Q E, sp vs H Q E → vs.length = ps.length)
    (hbody : ∀ (A : Around) (outer : List Env) (s : Shared) (H : Hp) (vs : List V) (Q : VK) (E : XK), A.guards = some [] → Room k (A.deeper (envOfC qual scope s.heap.objs.size f cdv)) → sp vs H Q E →
      ∃ t, PSs (cxOf CX P w K mg base N qual scope f cdv A outer s H E) body t ∧ t { nx := fun _ H' => Q .non H', rt := Q } (start N vs) H) :
    FnG P w K mg base CX (k + 1) f (PySem.W.fnOf name qual params body scope dV kV doc pm an cdv ct) ps sp := by
  refine ⟨len, fun A outer s H args us vs Q E hgd hr e0 hb r hsp => ?_⟩
  have KX : K.In s.heap := e0.mod.kin.keeps fun b o e => (e0.bs b o e).1
  have lim : s.heap.NoLimit := e0.mod.nolimit.keeps fun b o e => (e0.bs b o e).1
  refine codeAny_call_function hr.depth (KX _ _ lk) rfl S.co S.gen rfl (PySem.W.codeRec_of KX hcd) (hb _ _ _ _ ?_)
  refine wpAny_newFunctionEnv_cells S.kind (fun ⟨n, v⟩ hy => ?_) fun env he s1 x => ?_
  · rcases S.par n (List.of_mem_zip hy).1 with q | q
    · exact .inl q
    · exact .inr ⟨q, PySem.W.cellsFrom_some _ _ _ (.inl q)⟩
  subst he
  refine ⟨lim.keeps x.toInCall.keep, codeAny_func ?_⟩
  obtain ⟨t, ht, hq⟩ := hbody A outer s H vs Q E hgd (hr.deeper _) hsp
  have I : Inv (cxOf CX P w K mg base N qual scope f cdv A outer s H E) [] (start N vs) H s1 := inv_start S hr.hd e0 (len _ _ _ _ hsp) r x
  refine wpAny_mono (ht.run [] s1 (start N vs) H _ I hq) (fun fl s' hs => ?_) fun e s' hs => hs
  cases fl with
  | ret u =>
    obtain ⟨v, σ', H', J, rv, q⟩ := hs
    exact ⟨v, H', J.os, J.bare, J.base, J.hok, rv, q⟩
  | next =>
    obtain ⟨σ', H', J, q⟩ := hs
    exact ⟨V.non, H', J.os, J.bare, J.base, J.hok, rfl, q⟩
  | brk =>
    obtain ⟨_, _, _, q⟩ := hs
    exact False.elim q
  | cont =>
    obtain ⟨_, _, _, q⟩ := hs
    exact False.elim q
/-- a def's body -/
theorem funG_ok {x qual : Str} {params : Arguments} {body : List Stmt} {scope : Scope} {dvs : List V} {kws : List (Str × V)} {N ps : List Str} {sp : Sp} (F : FunD K x qual params body scope dvs kws f fd) (S : FnScope N ps scope) (len : ∀ vs H Q E, sp vs H Q E → vs.length = ps.length)
    (hbody : ∀ (cdv : Value) (A : Around) (outer : List Env) (s : Shared) (H : Hp) (vs : List V) (Q : VK) (E : XK), A.guards = some [] → Room k (A.deeper (envOfC qual scope s.heap.objs.size f cdv)) → sp vs H Q E →
      ∃ t, PSs (cxOf CX0 P w K mg base N qual scope f cdv A outer s H E).nox body t ∧ t { nx := fun _ H' => Q .non H', rt := Q } (start N vs) H) : FnG P w K mg base CX0 (k + 1) f fd ps sp := by
  obtain ⟨oc, od, dV, kV, doc, pm, an, cdv, ct, osl, rfl, lk, hcd, _, _⟩ := F.ex
  refine fnG_of lk hcd S len fun A outer s H vs Q E hgd hr hsp => ?_
  obtain ⟨t, h, q⟩ := hbody cdv A outer s H vs Q E hgd hr hsp
  exact ⟨t, h.nox, q⟩
end
section
variable {X : Cx} {CX : CXT} {k : Nat} {f : Addr} {fd : FuncData} {ps : List Str} {sp : Sp} {dvs : List V} {ds : List Value} {E : XK} {x : Str} {p pos : Pos} {e : Expr} {es : List Expr} {t : TA}
theorem pe_callG (F : FnG X.prog X.w X.K X.mg X.base CX k f fd ps sp) (hgd : X.A.guards = some []) (hr : Room k X.A) (hg : Gl X x) (hm : X.mg x = some (.ref f)) (hk : PySem.W.keepIn X.K (.ref f) = true) (hb : Binds X.K fd ps ds) (hd : Vals dvs ds) (hx : Passes CX X E)
    (ha : PA X (e :: es) t) (hdb : (x == ("__debug__" : Str)) = false := by decide) (he : starEach (e :: es) X.env = (false, eval e X.env) :: starEach es X.env := by rfl) (hpl : (backTo pos (starEach es X.env)).any (·.1) = false := by rfl) :
    PE X (.Call (.Name x p) (e :: es) [] pos) (tCall sp dvs E t) := by
  refine ⟨fun pins s σ H Q I h => ?_⟩
  refine wpAny_Call_Name_kw (ld_glob I hg hm ?_ hdb)
  refine PySem.W.callWith_K (h₀ := X.base) I.ok.mod.kin hk (thn (ha.run pos pins s σ H _ I h) fun us s1 ⟨vs, H1, I1, r, q⟩ => ⟨I1.kIn, ?_⟩) he hpl
  have r2 : Vals (vs ++ dvs) (us ++ ds) := r.append hd
  refine wpAny_call (codeAny_mono (F.run X.A X.stack s1 H1 ⟨us, []⟩ (us ++ ds) (vs ++ dvs) _ E hgd hr I1.env0 (hb s1 us I1.kIn (by rw [← r2.length]; exact F.len _ _ _ _ q)) r2 q) fun r' s' hq => ?_)
  cases r' with
  | error ev => exact hx pins σ H1 s1 ev s' I1 hq
  | ok fl =>
    cases fl with
    | ret u => exact I1.after hq
    | next => exact False.elim hq
    | brk => exact False.elim hq
    | cont => exact False.elim hq
end

/-! ### the end -/
/-- the abstract heap at the law's entry: sys.modules, the tables, the script -/
noncomputable def hp0 (K : PySem.W.Frag) (cs : List (Addr × Addr)) (os oa : Obj) (a : Addr) (xs : List V) : Hp := fun b =>
  if b = sysModules then some (.frz os (.ext fun _ => True)) else
  if b ∈ cs.map (·.2) then some (.tbl #[]) else
  if b = a ∧ K.lookup a = none then some (.frz oa (.lst xs)) else none
section
variable {K : PySem.W.Frag} {cs : List (Addr × Addr)} {os oa : Obj} {a : Addr} {xs : List V}
theorem hp0_sys : hp0 K cs os oa a xs sysModules = some (.frz os (.ext fun _ => True)) := if_pos rfl
theorem hp0_tab {b : Addr} (h1 : b ≠ sysModules) (h2 : b ∈ cs.map (·.2)) : hp0 K cs os oa a xs b = some (.tbl #[]) := (if_neg h1).trans (if_pos h2)
theorem hp0_scr {b : Addr} (h1 : b ≠ sysModules) (h2 : b ∉ cs.map (·.2)) (h3 : b = a ∧ K.lookup a = none) : hp0 K cs os oa a xs b = some (.frz oa (.lst xs)) := (if_neg h1).trans ((if_neg h2).trans (if_pos h3))
theorem hp0_non {b : Addr} (h1 : b ≠ sysModules) (h2 : b ∉ cs.map (·.2)) (h3 : ¬ (b = a ∧ K.lookup a = none)) : hp0 K cs os oa a xs b = none := (if_neg h1).trans ((if_neg h2).trans (if_neg h3))
/-- what stands at b -/
theorem hp0_cases (b : Addr) : (b = sysModules ∧ hp0 K cs os oa a xs b = some (.frz os (.ext fun _ => True))) ∨
    (b ≠ sysModules ∧ b ∈ cs.map (·.2) ∧ hp0 K cs os oa a xs b = some (.tbl #[])) ∨
    (b ≠ sysModules ∧ b ∉ cs.map (·.2) ∧ (b = a ∧ K.lookup a = none) ∧ hp0 K cs os oa a xs b = some (.frz oa (.lst xs))) ∨
    (b ≠ sysModules ∧ b ∉ cs.map (·.2) ∧ ¬ (b = a ∧ K.lookup a = none) ∧ hp0 K cs os oa a xs b = none) := by
  by_cases h1 : b = sysModules
  · exact .inl ⟨h1, by rw [h1]; exact hp0_sys⟩
  by_cases h2 : b ∈ cs.map (·.2)
  · exact .inr (.inl ⟨h1, h2, hp0_tab h1 h2⟩)
  by_cases h3 : b = a ∧ K.lookup a = none
  · exact .inr (.inr (.inl ⟨h1, h2, h3, hp0_scr h1 h2 h3⟩))
  · exact .inr (.inr (.inr ⟨h1, h2, h3, hp0_non h1 h2 h3⟩))
end
theorem law_callG {P : Program} {w : World} {K : PySem.W.Frag} {mg mb : Str → Option Value} {k : Nat} {fa a : Addr} {cs : List (Addr × Addr)} {fd : FuncData} {x : Str} {sp : Sp} {s₁ : Shared} {vs : List Value} {ns : List Int} {osys : Obj}
    (KX : K.In s₁.heap) (hns : s₁.heap.Ns mainGlobals mg) (hb : s₁.heap.Ns builtinsNs mb) (hbb : ∀ y : Str, y ≠ "__name__" → mb y = bootBuiltins y) (hlim : s₁.heap.NoLimit) (hg : s₁.gens = #[])
    (hT : ∀ p ∈ cs, s₁.heap.get? p.2 = some { cls := .none, data := .fields #[] })
    (nT : ∀ p ∈ cs, K.lookup p.2 = none) (C : ∀ p ∈ cs, PySem.W.CodeHd s₁.heap p.1 p.2)
    (hbm : ∃ (m : Addr) (om : Obj), mg "__builtins__" = some (.ref m) ∧ m ≠ builtinsNs ∧ s₁.heap.get? m = some om ∧
      om.cls = .type "module" ∧ om.dict = some builtinsNs ∧ om.data = .plain)
    (hsys : s₁.heap.get? sysModules = some osys) (hsysd : ∃ es ep, osys.data = .dict es ep) (nS : K.lookup sysModules = none)
    (ha : s₁.heap.get? a = some { cls := .type "list", data := .seq vs.toArray }) (hi : IntsAre vs ns) (hl : ns.length ≤ sizeLine) (hr : Room k callerA)
    (F : ∀ base : Heap, K.In base → base.Ns mainGlobals mg → (∀ p ∈ cs, TabB base mg p.1 p.2) → FnG P w K mg base CX0 k fa fd [x] sp)
    (hbind : ∀ (s : Shared) (u : Value), BindsTo s fd ⟨[u], []⟩ [(x, u)])
    (hsp : ∀ H : Hp, (∀ p ∈ cs, H p.2 = some (.tbl #[])) → SysOk H → SqL K H a (ns.map V.int) → sp [.ref a] H (fun v _ => v = .bl true) fun _ _ _ => False) :
    codeAny (model P w) callerA (.call (.ref fa) ⟨[.ref a], []⟩)
      (fun r s' => r = .ok (.ret (.bool true)) ∧ OldK s₁.heap s'.heap ∧ s'.os = s₁.os ∧ AllBare s'.gens) s₁ := by
  obtain ⟨se, sp1, sd⟩ := hsysd
  generalize hoa : ({ cls := .type "list", data := .seq vs.toArray } : Obj) = oa at ha
  -- the places differ
  have tabOf : ∀ b : Addr, b ∈ cs.map (·.2) → s₁.heap.get? b = some { cls := .none, data := .fields #[] } := by
    intro b q
    obtain ⟨p, hp, e⟩ := List.mem_map.mp q
    exact e ▸ hT p hp
  have sysT : sysModules ∉ cs.map (·.2) := fun q => by
    have e := tabOf _ q
    rw [hsys] at e
    injection e with e
    rw [e] at sd
    cases sd
  have sysA : a ≠ sysModules := fun q => by
    rw [q, hsys] at ha
    injection ha with e
    rw [e, ← hoa] at sd
    cases sd
  have tabA : a ∉ cs.map (·.2) := fun q => by
    have e := tabOf _ q
    rw [ha, ← hoa] at e
    injection e with e
    injection e with _ _ e
    cases e
  have tabS : ∀ {b : Addr}, b ∈ cs.map (·.2) → b ≠ sysModules := fun q z => sysT (z ▸ q)
  have rows := vals_ints hi
  have hlen : (ns.map V.int).length ≤ sizeLine := by rw [List.length_map]; exact hl
  generalize hH : hp0 K cs osys oa a (ns.map V.int) = H
  have what : ∀ b, _ := fun b => hH ▸ hp0_cases (K := K) (cs := cs) (os := osys) (oa := oa) (a := a) (xs := ns.map V.int) b
  have hok : HOk P w H s₁.heap := by
    intro b u q
    rcases what b with ⟨e, z⟩ | ⟨_, e, z⟩ | ⟨_, _, e, z⟩ | ⟨_, _, _, z⟩
    · rw [z] at q; cases q
      exact e ▸ ⟨hsys, trivial, ⟨_, hsys⟩, fun _ _ _ _ => trivial⟩
    · rw [z] at q; cases q
      exact tabOf b e
    · rw [z] at q; cases q
      exact e.1 ▸ ⟨ha, hlen, vs, _, rows, hoa ▸ ha⟩
    · rw [z] at q; cases q
  -- what isn't of these kinds stays in the base
  have free : ∀ {b : Addr} {o : Obj}, s₁.heap.get? b = some o → b ≠ sysModules → o ≠ { cls := .none, data := .fields #[] } → o ≠ oa → H b = none := by
    intro b o e h1 h2 h3
    rcases what b with ⟨q, _⟩ | ⟨_, q, _⟩ | ⟨_, _, q, _⟩ | ⟨_, _, _, z⟩
    · exact (h1 q).elim
    · exact (h2 (Option.some.inj (e.symm.trans (tabOf b q)))).elim
    · exact (h3 (Option.some.inj (e.symm.trans (q.1 ▸ ha)))).elim
    · exact z
  have dfree : ∀ {b : Addr} {o : Obj} {es : Array DictEntry} {ep : Nat}, s₁.heap.get? b = some o → o.data = .dict es ep → b ≠ sysModules → H b = none := by
    intro b o es ep e d h1
    refine free e h1 (fun z => ?_) fun z => ?_
    · rw [z] at d; cases d
    · rw [z, ← hoa] at d; cases d
  have nsB : ∀ {b : Addr} {m : Str → Option Value}, b ≠ sysModules → s₁.heap.Ns b m → (hidT s₁.heap H).Ns b m := by
    rintro b m h1 ⟨o, es, ep, e, d, r⟩
    exact ⟨o, es, ep, hidT_get e (dfree e d h1), d, r⟩
  have Kb : K.In (hidT s₁.heap H) := by
    intro b o e
    refine hidT_get (KX b o e) ?_
    rcases what b with ⟨q, _⟩ | ⟨_, q, _⟩ | ⟨_, _, q, _⟩ | ⟨_, _, _, z⟩
    · rw [q, nS] at e; cases e
    · obtain ⟨p, hp, z⟩ := List.mem_map.mp q
      rw [← z, nT p hp] at e; cases e
    · rw [q.1, q.2] at e; cases e
    · exact z
  have M : L2.Mod K mg (hidT s₁.heap H) := ⟨Kb, nsB (by decide) hns, ⟨mb, nsB (by decide) hb, hbb⟩, let ⟨mc, h1, h2⟩ := hlim; ⟨mc, nsB (by decide) h1, h2⟩⟩
  have TB : ∀ p ∈ cs, TabB (hidT s₁.heap H) mg p.1 p.2 := by
    intro p hp
    have tp := hT p hp
    refine ⟨?_, ?_, fun z => ?_⟩
    · obtain ⟨o, us, file, tf, flags, tg, inF, text, tt, e1, r1, r2, r⟩ := C p hp
      refine ⟨o, us, file, tf, flags, tg, inF, text, tt, hidT_get e1 (free e1 (fun z => ?_) (fun z => ?_) fun z => ?_), r1, r2, r⟩
      · rw [z, hsys] at e1; injection e1 with e1
        rw [e1, r2] at sd; cases sd
      · rw [z] at r2; cases r2
        simp at r
      · rw [z, ← hoa] at r2; cases r2
    · obtain ⟨m, om, b1, b2, b3, b4, b5, b6⟩ := hbm
      refine ⟨m, om, b1, b2, fun q => ?_, fun q => ?_, hidT_get b3 (free b3 (fun z => ?_) (fun z => ?_) fun z => ?_), b4, b5, b6⟩
      · obtain ⟨o, es, ep, e, d, _⟩ := hns
        rw [← q, b3] at e; injection e with e
        rw [← e, b6] at d; cases d
      · rw [q, tp] at b3; cases b3; cases b6
      · rw [z, hsys] at b3; injection b3 with b3
        rw [b3, b6] at sd; cases sd
      · rw [z] at b6; cases b6
      · rw [z, ← hoa] at b6; cases b6
    · obtain ⟨o, es, ep, e, d, _⟩ := hns
      rw [z, tp] at e; cases e; cases d
  have E0 : Env0 P w K mg (hidT s₁.heap H) callerA [] s₁ H :=
    ⟨rfl, M, fun _ _ e => of_hidT e, Nat.le_of_eq (hidT_size _ _), trivial, fun b q => absurd q (List.not_mem_nil), hok, .of_eq hg⟩
  have scr : SqL K H a (ns.map V.int) := by
    cases q : K.lookup a with
    | none => exact .inl (.inr ⟨oa, hH ▸ hp0_scr sysA tabA ⟨rfl, q⟩⟩)
    | some o =>
      have e := KX a o q
      rw [ha] at e; injection e with e
      subst e; subst hoa
      exact .inr ⟨_, vs.toArray, _, q, rfl, rfl, rfl, by rw [List.size_toArray, hi.length]; exact hl, by simpa using rows⟩
  have tabs : ∀ p ∈ cs, H p.2 = some (.tbl #[]) := fun p hp => hH ▸ hp0_tab (tabS (List.mem_map.mpr ⟨p, hp, rfl⟩)) (List.mem_map.mpr ⟨p, hp, rfl⟩)
  have sysH : SysOk H := ⟨osys, _, hH ▸ hp0_sys⟩
  have R := (F _ Kb (nsB (by decide) hns) TB).run callerA [] s₁ H ⟨[.ref a], []⟩ [.ref a] [.ref a] _ _ rfl hr E0 (hbind s₁ (.ref a)) (.cons rfl .nil) (hsp H tabs sysH scr)
  refine codeAny_mono R fun r s' h => ?_
  match r, h with
  | .error e, h => exact False.elim h
  | .ok .next, h => exact False.elim h
  | .ok .brk, h => exact False.elim h
  | .ok .cont, h => exact False.elim h
  | .ok (.ret u), h =>
    obtain ⟨v, H', os, bare, un, ok2, r', q⟩ := h
    cases (show v = .bl true from q)
    obtain rfl : u = Value.bool true := r'
    have same : ∀ {b : Addr} {ob o : Obj} {y : HO}, H b = some (.frz ob y) → s₁.heap.get? b = some o → s'.heap.get? b = some o := fun z e => by
      have e1 := (hok _ _ z).1
      rw [e] at e1; injection e1 with e1
      exact e1 ▸ (ok2 _ _ (un.frzs _ _ _ z)).1
    have stay : ∀ b o, b ∉ cs.map (·.2) → s₁.heap.get? b = some o → s'.heap.get? b = some o := by
      intro b o nb e
      rcases what b with ⟨_, z⟩ | ⟨_, q, _⟩ | ⟨_, _, _, z⟩ | ⟨_, _, _, z⟩
      · exact same z e
      · exact (nb q).elim
      · exact same z e
      · exact un.keep b o e z (List.not_mem_nil) (List.not_mem_nil)
    have grown : ∀ p ∈ cs, ∃ more : Array Value, s'.heap.get? p.2 = some { cls := .none, data := .fields more } := fun p hp => by
      obtain ⟨more, z⟩ := un.tbls p.2 #[] (tabs p hp)
      exact ⟨_, ok2 p.2 _ z⟩
    refine ⟨rfl, ⟨fun b o e => ?_, fun b o e => ?_⟩, os, bare⟩
    · by_cases q : b ∈ cs.map (·.2)
      · obtain ⟨p, hp, z⟩ := List.mem_map.mp q
        obtain ⟨more, hm⟩ := grown p hp
        subst z
        have e' := hT p hp
        rw [e] at e'; cases e'
        exact .inr (.inl ⟨((C p hp).tab (hT p hp)).isCodeTable, rfl, #[], more, rfl, by rw [Array.empty_append]; exact hm⟩)
      · exact .inl (stay b o q e)
    · by_cases q : b ∈ cs.map (·.2)
      · obtain ⟨p, hp, z⟩ := List.mem_map.mp q
        subst z
        obtain ⟨more, hm⟩ := grown p hp
        exact ⟨_, hm⟩
      · exact ⟨o, stay b o q e⟩
end AL
set_option Elab.async false
set_option linter.all false
set_option maxRecDepth 100000
set_option maxHeartbeats 4000000
namespace AL
open PySem PySem.Spec PyProof.Rows L2
open GxR (TabB TabG Tabbed)
/-! ### the head's facts, sys.modules among them -/
def sysB (g : Addr → Option Obj) : Bool := match g sysModules with
  | some ⟨_, _, .dict _ _, _⟩ => true
  | _ => false
theorem sysB_ok {g : Addr → Option Obj} (h : sysB g = true) : ∃ o, g sysModules = some o ∧ ∃ es ep, o.data = .dict es ep := by
  unfold sysB at h
  cases q : g sysModules with
  | none => rw [q] at h; cases h
  | some o =>
    obtain ⟨oc, od, dt, osl⟩ := o
    rw [q] at h
    cases dt with
    | dict es ep => exact ⟨_, rfl, es, ep, rfl⟩
    | _ => cases h
def noSys (K : PySem.W.Frag) : Bool := (K.lookup sysModules).isNone
abbrev AlG : Type := He.AlX × Bool
def obsG (n : Nat) (fa : List He.Fa) (fn : List He.DefD) (ts : List He.Tab) (tf : List He.Defn) (g : Addr → Option Obj) : AlG := (He.obsX n fa fn ts tf noSys g, sysB g)
structure SaysG (fa : List He.Fa) (fn : List He.DefD) (ts : List He.Tab) (tf : List He.Defn) (w : World) (h : Heap) : Prop where
  x : ∃ K : PySem.W.Frag, K.In h ∧ He.SaysX fa fn ts tf noSys w h K
  sys : ∃ o, h.get? sysModules = some o ∧ ∃ es ep, o.data = .dict es ep
def hookG (n : Nat) (fa : List He.Fa) (fn : List He.DefD) (ts : List He.Tab) (tf : List He.Defn) : PySem.W.Hook where
  α := AlG
  obs := fun s => obsG n fa fn ts tf s.heap.get?
  val := fun w => (He.valX fn ts w, true)
  says := fun w h => SaysG fa fn ts tf w h
  of := fun _ _ e => ⟨⟨_, He.frT_in, He.saysX_of (congrArg (fun z : AlG => z.1) e)⟩, sysB_ok (congrArg (fun z : AlG => z.2) e)⟩
  keeps := fun w h h' c k => ⟨(He.hookX n fa fn ts tf noSys).keeps w h h' c.x k, let ⟨o, e, d⟩ := c.sys; ⟨o, k _ _ e, d⟩⟩
theorem obsG_eq {n : Nat} {fa : List He.Fa} {fn : List He.DefD} {ts : List He.Tab} {tf : List He.Defn} {g : Addr → Option Obj} {s : Shared} (h : ∀ a, g a = s.heap.get? a) : obsG n fa fn ts tf g = (hookG n fa fn ts tf).obs s := by
  have e : g = s.heap.get? := funext h
  rw [e] <;> rfl
/-! ### the walk -/
/-- what the head must tell of the law's own def -/
structure LawG (l : PySem.W.OpenLaw) (w : World) (K : PySem.W.Frag) (k n : Nat) (x : Str) (mg : Str → Option Value) (fa : Addr) (h : Heap) (fd : FuncData) (cs : List (Addr × Addr)) (sp : Sp) : Prop where
  bare : ∀ p ∈ cs, h.get? p.2 = some { cls := .none, data := .fields #[] }
  out : ∀ p ∈ cs, K.lookup p.2 = none
  hd : ∀ p ∈ cs, PySem.W.CodeHd h p.1 p.2
  nsys : K.lookup sysModules = none
  binds : ∀ (s : Shared) (u : Value), BindsTo s fd ⟨[u], []⟩ [(x, u)]
  holds : ∀ (H : Hp) (a : Addr) (ns : List Int), ns.length ≤ n → (∀ z ∈ ns, Builtin.Int.intBits z ≤ 1048576) → (∀ p ∈ cs, H p.2 = some (.tbl #[])) → SysOk H →
    SqL K H a (ns.map V.int) → sp [.ref a] H (fun v _ => v = .bl true) fun _ _ _ => False
  ok : ∀ base : Heap, K.In base → base.Ns mainGlobals mg → (∀ p ∈ cs, TabB base mg p.1 p.2) → FnG l.prog w K mg base CX0 k fa fd [x] sp
theorem walk_ofG {l : PySem.W.OpenLaw} {n k : Nat} {q : Program} {loose : List Str} {XP : (Str → Option Value) → Heap → Prop} {YP : World → Heap → Prop} {d : DefRec} {x : Str}
    (hn : l.most = some n) (hn2 : n ≤ sizeLine) (hdf : d.params.defaults = []) (hr : Room k callerA)
    (hsys : ∀ (w : World) (h : Heap), YP w h → ∃ o, h.get? sysModules = some o ∧ ∃ es ep, o.data = .dict es ep)
    (F : ∀ (w : World) (mg : Str → Option Value) (fa : Addr) (h : Heap), YP w h → h.Ns mainGlobals mg → mg d.name = some (.ref fa) →
      ∃ (K : PySem.W.Frag) (fd : FuncData) (cs : List (Addr × Addr)) (sp : Sp), K.In h ∧ LawG l w K k n x mg fa h fd cs sp) :
    PySem.W.WalkO q loose XP YP l.row.toRowW d [] (fun f vs => PySem.call f vs) := by
  refine Att.attach_callB hn hdf ?_
  intro w s₀ s₁ mg mb fa o pm cd doc a vs ns G Y _ _ _ hmg hobj hints hlen hbits hg
  obtain ⟨K, fd, cs, sp, KX, L⟩ := F w mg fa _ Y G.T.g hmg
  obtain ⟨osys, hs, hd⟩ := hsys w _ Y
  exact law_callG (osys := osys) KX G.T.g G.T.b G.T.builtins G.T.nolimit hg L.bare L.out L.hd G.T.bmain hs hd L.nsys hobj hints (Nat.le_trans hlen hn2) hr L.ok L.binds
    fun H h1 h2 h3 => L.holds H a ns hlen hbits h1 h2 h3
/-- all facts by place -/
theorem saysG_nosys {fa : List He.Fa} {fn : List He.DefD} {ts : List He.Tab} {tf : List He.Defn} {w : World} {h : Heap} {K : PySem.W.Frag} (c : He.SaysX fa fn ts tf noSys w h K) : K.lookup sysModules = none := Option.isNone_iff_eq_none.mp c.more
end AL
set_option Elab.async false
set_option linter.all false
set_option maxRecDepth 100000
set_option maxHeartbeats 4000000
namespace AL
open PySem PySem.Spec PyProof.Rows L2
section
variable {X : Cx}
/-- y = {k: v for .. in ..}, the new dict stored while the block stands -/
theorem ps_setDc {i : Nat} {y : Str} {py : Pos} {kx vx tg iter : Expr} {scope : Scope} {own : List (Str × Nat)} {pos spos : Pos} {wi : TI} {g : TG} {tk tv : TE}
    (hc : X.calm = true) (hN : X.N.Nodup) (hy : X.N[i]? = some y) (hloc : X.env.scope.names.lookup y = some .local)
    (hsw : swapsWith (.DictComp kx vx [⟨tg, iter, [], 0⟩] scope pos) (some (.Name y py)) spos.line X.env = pure true)
    (hi : PI X tg iter wi) (ok : BlkOk X.N X.env.scope scope own)
    (hg : ∀ (s1 : Shared) (H1 : Hp) (C : Addr) (cl : List (Str × Addr)) (fq : List Addr), PG (X.blk s1 H1 scope (compEnvC scope cl C X.env) fq) tg g)
    (hk : ∀ (s1 : Shared) (H1 : Hp) (C : Addr) (cl : List (Str × Addr)) (fq : List Addr), PE (X.blk s1 H1 scope (compEnvC scope cl C X.env) fq) kx tk)
    (hv : ∀ (s1 : Shared) (H1 : Hp) (C : Addr) (cl : List (Str × Addr)) (fq : List Addr), PE (X.blk s1 H1 scope (compEnvC scope cl C X.env) fq) vx tv)
    (hs : ∀ x, foldedSetIterable iter X.env x = pure x := by intro _; rfl) :
    PS X (.Assign [.Name y py] (.DictComp kx vx [⟨tg, iter, [], 0⟩] scope pos) spos) (tAsg (tDc wi g tYes tk tv (own.map (·.2))) (gName i)) := by
  constructor
  intro pins s σ H D I h
  rw [exec_Assign_Name_used _ _ _ _ hsw]
  apply wpAny_bind
  apply wpAny_standAt
  apply wpAny_bind
  show wpAny _ X.A (do let _ ← comprehension (.DictComp kx vx [⟨tg, iter, [], 0⟩] scope pos) scope X.env (firstIterPos [⟨tg, iter, [], 0⟩] pos) newDict false (eval iter X.env) (some (assign (.Name y py) X.env))) _ _ s
  have h' : tDc wi g tYes tk tv (own.map (·.2)) σ H (fun x H1 => gName i x σ H1 D.nx) := h
  apply wpAny_bind
  refine thn (dc_core (Qf := fun _ s1 => SP X pins D .next s1) hc hN I hi ok hg (fun _ _ _ _ _ => pts_nil) hk hv hs h' ?_) fun _ _ q => wpAny_pure (wpAny_pure q)
  intro L C s1 m H1 I1 q hn f
  obtain ⟨f0, f1, f2, f3, f4, f5⟩ := f
  show wpAny _ _ (assign (.Name y py) X.env (.ref L)) _ _ _
  refine wpAny_assign_Name (store_ok2 (v := V.ref L) I1 hN hy (.inl hloc) rfl ?_ (.inr hloc))
  rintro s2 I2 ⟨a, sb, ha⟩
  have nC : C ≠ a := ha.elim (fun z => z ▸ f1) fun z e => f4 y a z e.symm
  refine ⟨m, hn.sameBut sb nC, ?_⟩
  intro h3 sb3
  exact ⟨_, H1, I2.turned (t' := s2.toks) (fun b o hb e => (sb3.2 b hb).trans e) f0 f1 f3 f4 f5, q⟩
theorem sw_dc {kx vx : Expr} {gs : List Comprehension} {scope : Scope} {pos py : Pos} {y : Str} {l : Nat} {env : Env} (h1 : env.scope.kind = .function) (h2 : env.scope.names.lookup y = some .local) (h3 : (py.line == pos.line) = true)
    (h4 : (scope.names.any fun (n, k) => n == y && (k == .local || k == .cell)) = false) : swapsWith (.DictComp kx vx gs scope pos) (some (.Name y py)) l env = pure true := by
  have e1 : env.kindOf y = some .local := h2
  have e2 : env.blockKind = .function := by
    unfold Env.blockKind
    rw [h1]
    rfl
  unfold swapsWith
  simp only [e2, e1, h4, Expr.pos, h3]
  rfl
end
end AL
set_option Elab.async false
set_option linter.all false
set_option maxRecDepth 100000
set_option maxHeartbeats 4000000
namespace AL
open PySem PySem.Spec PyProof.Rows L2
section
variable {X : Cx} {pins : List (Addr × Obj)} {σ : L2.St} {H : Hp} {s : Shared}
/-- [*d, ..], d a dict: its keys -/
def tStarD (te : TE) (t : TA) : TA := fun σ H Q => te σ H fun x H1 => ∃ a kvs, x = V.ref a ∧ Rd H1 a (.dK kvs) ∧ t σ H1 fun ys H2 => Q ((kvs.map fun p => kV p.1) ++ ys) H2
theorem star_dict {a : Addr} {kvs : List (Key × V)} {E : Value → Shared → Prop} {Q : List Value → Shared → Prop} (hc : X.calm = true) (I : Inv X pins σ H s) (hd : Rd H a (.dK kvs))
    (hQ : ∀ us s', Inv X pins σ H s' → Vals (kvs.map fun p => kV p.1) us → Q us s') : PySem.W.StarOf (model X.prog X.w) X.A E (.ref a) Q s := by
  obtain ⟨z, lo, vs, rel, dd⟩ := dk_rd I.hok hd
  obtain ⟨ep, hat⟩ := dd.dictAt
  have hl : vs.length ≤ sizeLine := by rw [← KV.length rel]; exact z
  have ek : (kvs.map fun p => kV p.1) = vs.map fun p => kV p.1 := by
    have q := congrArg (List.map kV) (KV.keys rel)
    rw [List.map_map, List.map_map] at q
    exact q
  have run : wpAny (model X.prog X.w) X.A (collect (.ref a)) Q E s :=
    PySem.W.kdu_collect (PySem.W.kdl_dict (knd := mixKind X.prog X.w) (kvs := vs) (ep := ep) lo) (I.ok.hd hc) hat hl fun h' tk acc hk hacc =>
      hQ acc.toList _ (I.kept (t' := tk) hk) (by
        rw [ek]
        exact keys_at (by rw [Array.length_toList, hacc.1]) fun j v e => hacc.2 j v (by rw [← Array.getElem?_toList]; exact e))
  have ty := dd.typeIs
  unfold PySem.W.StarOf notIterableAtAll
  exact wpAny_bind (wpAny_specialOf ty F.slot_dict_iter.lookup (wpAny_pure ⟨rfl, run⟩))
end
section
variable {X : Cx} {e : Expr} {es : List Expr} {te : TE} {t : TA} {p : Pos}
theorem pa_starD (hc : X.calm = true) (he : PE X e te) (hr : PA X es t) (hs : starEach (.Starred e p :: es) X.env = (true, eval e X.env) :: starEach es X.env := by rfl) : PA X (.Starred e p :: es) (tStarD te t) := by
  refine ⟨fun pos pins s σ H Q I h => PySem.W.items_star (thn (he.run pins s σ H _ I h) fun v s1 ⟨y, H1, I1, ry, a, kvs, ey, hx, q⟩ => ?_) hs⟩
  subst ey
  obtain rfl : v = Value.ref a := ry
  exact star_dict hc I1 hx fun us s2 I2 rv => thn (hr.run pos pins s2 σ H1 _ I2 q) fun ws s3 ⟨vs, H3, I3, r3, q3⟩ => ⟨_, H3, I3, rv.append r3, q3⟩
/-- a != b, two dicts of the same keys, their values equal -/
def rNeDV (K : PySem.W.Frag) : R2 := fun x y H Q => ∃ n a b ks ls, n ≤ 60 ∧ x = .ref a ∧ y = .ref b ∧ H a = some (.dK ks) ∧ H b = some (.dK ls) ∧ ks.length = ls.length ∧ (∀ p ∈ ks, ∃ u, valV ls p.1 = some u ∧ EqV K H n p.2 u) ∧ Q (.bl false) H
theorem op_neDV (hu : X.A.units + 64 < cLine) : OpR X (compareOp .NotEq) (rNeDV X.K) := by
  intro pins s σ H x y v u Q I rx ry h
  obtain ⟨n, a, b, ks, ls, hn, rfl, rfl, ea, eb, hl, hp, q⟩ := h
  cases (show v = Value.ref a from rx)
  cases (show u = Value.ref b from ry)
  have oka : ObjOk X.prog X.w H s.heap a (.dK ks) := I.hok a _ ea
  have okb : ObjOk X.prog X.w H s.heap b (.dK ls) := I.hok b _ eb
  obtain ⟨_, ya, va, ra, da⟩ := oka
  obtain ⟨_, yb, vb, rb, db⟩ := okb
  have hv : va.length = vb.length := by rw [← KV.length ra, ← KV.length rb]; exact hl
  refine wpAny_richCompare_same_room (op := .NotEq) da.typeIs db.typeIs F.slot_dict_ne (wpAny_call_entry F.slot_dict_ne da.typeIs F.entry_dict_ne ?_
    (F.args_dict_ne_2 _ _)) (by omega)
  refine wpAny_bind (m := Builtin.Dict.dictSlotArgs "__ne__" ⟨[.ref a, .ref b], []⟩) ?_
  unfold Builtin.Dict.dictSlotArgs
  refine wpAny_bind (wpAny_notOrdered_dict da.typeIs (wpAny_pure (a := (Value.ref a, Value.ref b)) ?_))
  refine wpAny_bind (wpAny_isInstance (T := "dict") db.typeIs F.sub_dict_dict ?_)
  rw [if_neg (by decide)]
  refine wpAny_bind (wpAny_pure (wpAny_bind (wpAny_pure (wpAny_bind (PySem.W.samePairsP (knd := mixKind X.prog X.w) (r := true) ya yb da db
    (fun _ => hits_run (eqV_run I n X.A.in1 (by show X.A.units + 1 + n < cLine; omega)) rb ra hp) ?_)))))
  refine wpAny_pure ⟨_, rfl, fun z => ?_, .bl false, H, I, ?_, q⟩
  · cases z
  · show Value.bool _ = Value.bool false
    rw [hv]
    simp
end
/-! ### xs[:] = ys -/
theorem bounds_all (n : Nat) : sliceBounds none none none n = (0, (n : Int), 1) := by
  simp [sliceBounds]
section
variable {prog : Program} {w : World} {A : Around} {E : Value → Shared → Prop} {s : Shared}
theorem setItem_all {l b sl : Addr} {items new : Array Value} {n n2 : Nat} {Q : Unit → Shared → Prop}
    (e : s.heap.get? l = some ⟨.type "list", none, .seq items n, #[]⟩) (e2 : s.heap.get? b = some ⟨.type "list", none, .seq new n2, #[]⟩) (hne : l ≠ b)
    (hs : s.heap.IsSliceOf sl .none .none .none) (hsz : items.size + new.size ≤ sizeLine)
    (h : Q () { s with heap := s.heap.update l (Obj.mapSeq fun xs => xs.extract 0 0 ++ new ++ xs.extract items.size xs.size) }) :
    wpAny (model prog w) A (setItem (.ref l) (.ref sl) (.ref b)) Q E s := by
  have il : s.heap.IsList l items := IsL.isList e
  have ib : s.heap.IsList b new := IsL.isList e2
  obtain ⟨os, hos, hcs, hds⟩ := id hs
  have tS : s.TypeIs (.ref sl) "slice" := ⟨os, hos, hcs⟩
  have same : Builtin.List.listSameRef (.ref l) (.ref b) = false := beq_eq_false_iff_ne.mpr hne
  have hz2 : ((fun xs : Array Value => xs.extract 0 0 ++ new ++ xs.extract items.size xs.size) items).size ≤ sizeLine + 1 := by
    show (items.extract 0 0 ++ new ++ items.extract items.size items.size).size ≤ _
    simp only [Array.size_append, Array.size_extract]
    omega
  unfold setItem
  refine wpAny_holding (wpAny_bind (wpAny_sequenceKey il.typeIs (by decide) (wpAny_bind (wpAny_callSpecial?_slot (name := "__setitem__") il.typeIs slot_list_setitem
    (wpAny_call_entry slot_list_setitem il.typeIs entry_list_setitem ?_ (args_list_setitem _ _ _))))))
  refine wpAny_bind (m := Builtin.List.listSubscript? (.ref sl)) ?_
  unfold Builtin.List.listSubscript?
  refine wpAny_bind (wpAny_specialOf tS slice_no_index ?_)
  rw [if_pos (by rfl)]
  refine wpAny_pure (wpAny_bind (m := typeOf (.ref sl)) (wpAny_typeOf tS ?_))
  rw [if_neg (by decide), listSliceParts_eq]
  refine wpAny_bind (wpAny_bind (wpAny_field hos hds (x := .none) rfl (wpAny_bind (wpAny_listPart .none ?_))))
  rw [if_neg (show ¬ ((rawPart none == rawInt 0) = true) from Bool.false_ne_true)]
  refine wpAny_bind (wpAny_field hos hds (x := .none) rfl (wpAny_bind (wpAny_listPart .none (wpAny_bind (wpAny_field hos hds (x := .none) rfl (wpAny_bind (wpAny_listPart .none (wpAny_pure ?_))))))))
  dsimp only
  rw [if_neg (by rw [same]; exact Bool.false_ne_true)]
  refine wpAny_bind (m := Builtin.List.listAllItems (.ref b) "must assign iterable to extended slice") ?_
  unfold Builtin.List.listAllItems
  refine wpAny_bind (wpAny_typeOf ib.typeIs ?_)
  rw [if_pos (by decide)]
  unfold Builtin.List.listItems
  refine wpAny_bind (wpAny_seqItems e2 rfl (wpAny_pure (wpAny_bind (wpAny_bind (wpAny_seqItems e rfl (wpAny_pure ?_))))))
  have parts := (sliceIndices_raw none none none items.size (by simp)).trans (congrArg (pure : Int × Int × Int → Sem (Int × Int × Int)) (bounds_all items.size))
  refine wpAny_bind (wpAny_of_eq parts ?_)
  dsimp only
  rw [if_pos (by decide)]
  refine wpAny_bind (wpAny_rule ?_)
  rw [if_neg (by rw [notLongL hsz]; exact Bool.false_ne_true)]
  have mx : (max (0 : Int) (items.size : Int)).toNat = items.size := by omega
  have up : wpAny (model prog w) A.in1 (updateSeq l fun xs => xs.extract 0 0 ++ new ++ xs.extract items.size xs.size) (fun _ s' => wpAny (model prog w) A.in1 (do
      letGo (items.extract 0 items.size).toList.reverse
      ret Value.none) (fun fin s' => ∃ v, fin = Fin.done (Flow.ret v) ∧ wpAny (model prog w) A (pure ()) Q E s') E s') E s := by
    refine wpAny_updateSeq (hz := Nat.le_trans (Nat.le_add_right _ _) hsz) e rfl ?_
    refine wpAny_bind (wpAny_letGo (wpAny_pure ⟨.none, rfl, wpAny_pure ?_⟩))
    exact h
  rw [mx]
  exact wpAny_bind up
end
section
variable {X : Cx} {pins : List (Addr × Obj)} {s : Shared} {σ : L2.St} {H : Hp}
theorem set_all {l b sl : Addr} {xs ys : List V} {Q : Unit → Shared → Prop} (I : Inv X pins σ H s) (hH : H l = some (.lst xs)) (hB : H b = some (.lst ys)) (hne : l ≠ b) (hs : s.heap.IsSliceOf sl .none .none .none)
    (hz : xs.length + ys.length ≤ sizeLine) (h : ∀ s', Inv X pins σ (upd H l (.lst ys)) s' → Q () s') : wpAny (model X.prog X.w) X.A (setItem (.ref l) (.ref sl) (.ref b)) Q X.xe s := by
  obtain ⟨z1, its, n, r, hl, e⟩ := I.lstM hH
  obtain ⟨z2, its2, n2, r2, hl2, e2⟩ := I.lstM hB
  refine setItem_all e e2 hne hs (by rw [List.size_toArray, List.size_toArray]; omega) (h _ ?_)
  refine I.lset (its' := its2) (t' := s.toks) hH e ?_ r2 z2
  simp
def gAll (to : TE) : TG := fun v σ H Q => to σ H fun x H1 => ∃ a b xs ys, x = V.ref a ∧ v = V.ref b ∧ a ≠ b ∧ H1 a = some (.lst xs) ∧ H1 b = some (.lst ys) ∧ xs.length + ys.length ≤ sizeLine ∧ Q σ (upd H1 a (.lst ys))
/-- o[:] = a list -/
theorem pg_all {o : Expr} {to : TE} {p2 pos : Pos} (ho : PE X o to) : PG X (.Subscript o (.Slice none none none p2) pos) (gAll to) := by
  refine ⟨fun pins s σ H v u Q I r h => ?_⟩
  rw [assign_Subscript]
  refine wpAny_bind (wpAny_holding (thn (ho.run pins s σ H _ I h) fun ov s1 ⟨x, H1, I1, r1, a, b, xs, ys, ex, ev, hne, ha, hb, hz, q⟩ => ?_))
  subst ex ev
  obtain rfl : ov = Value.ref a := r1
  obtain rfl : u = Value.ref b := r
  refine wpAny_bind (wpAny_holding (wpAny_Slice ?_))
  simp only [evalPart_none]
  refine wpAny_pure (wpAny_pure (wpAny_pure ?_))
  have I2 : Inv X pins σ H1 { s1 with heap := s1.heap.push { cls := .type "slice", data := .fields #[.none, .none, .none] } } := I1.kept (t' := s1.toks) fun b ob q => Heap.get?_push_of_some _ q
  exact wpAny_bind (wpAny_standAt (wpAny_bind (wpAny_holding (set_all I2 ha hb hne (Heap.IsSliceOf.new ..) hz fun s' I' => wpAny_release ⟨σ, _, I', q⟩))))
end
end AL
set_option Elab.async false
set_option linter.all false
set_option maxRecDepth 100000
set_option maxHeartbeats 4000000
namespace AL
open PySem PySem.Spec PyProof.Rows L2
open SrtO (Swo Srtd Stb)
/-! ### the order of pairs of texts -/
def lexS (p q : Str × Str) : Bool := if p.1 = q.1 then decide (sLt p.2 q.2) else decide (sLt p.1 q.1)
theorem lexS_iff {p q : Str × Str} : lexS p q = true ↔ sLt p.1 q.1 ∨ (p.1 = q.1 ∧ sLt p.2 q.2) := by
  unfold lexS
  by_cases e : p.1 = q.1
  · rw [if_pos e, decide_eq_true_eq]
    constructor
    · exact fun h => .inr ⟨e, h⟩
    · rintro (h | ⟨_, h⟩)
      · rw [e] at h
        exact (sLt_irrefl _ h).elim
      · exact h
  · rw [if_neg e, decide_eq_true_eq]
    constructor
    · exact .inl
    · rintro (h | ⟨h, _⟩)
      · exact h
      · exact (e h).elim
theorem lexS_no {p q : Str × Str} : lexS p q = false ↔ ¬ (sLt p.1 q.1 ∨ (p.1 = q.1 ∧ sLt p.2 q.2)) := by
  rw [← lexS_iff]
  cases lexS p q <;> simp
theorem swo_lexS {α : Type} (k : α → Str × Str) : Swo fun v u => lexS (k v) (k u) := by
  refine ⟨fun x y h => ?_, fun x y z h1 h2 => ?_⟩
  · have a := lexS_iff.mp h
    refine lexS_no.mpr ?_
    rintro (b | ⟨b, b'⟩)
    · rcases a with a | ⟨a, _⟩
      · exact sLt_asymm a b
      · rw [a] at b
        exact sLt_irrefl _ b
    · rcases a with a | ⟨_, a⟩
      · rw [b] at a
        exact sLt_irrefl _ a
      · exact sLt_asymm a b'
  · have a := lexS_no.mp h1
    have b := lexS_no.mp h2
    refine lexS_no.mpr ?_
    have a1 : ¬ sLt (k y).1 (k x).1 := fun z => a (.inl z)
    have b1 : ¬ sLt (k z).1 (k y).1 := fun w => b (.inl w)
    rintro (c | ⟨c, c'⟩)
    · exact sLt_trans' a1 b1 c
    · rw [c] at b1
      have e : (k y).1 = (k x).1 := sLt_tri b1 a1
      exact sLt_trans' (fun w => a (.inr ⟨e, w⟩)) (fun w => b (.inr ⟨c.trans e.symm, w⟩)) c'
def IsTT (h : Heap) (v : Value) (x y : Str) : Prop := ∃ a o t u n, v = .ref a ∧ h.get? a = some o ∧ o.cls = .type "tuple" ∧ o.data = .seq #[.str x t, .str y u] n
theorem IsTT.keeps {h h' : Heap} {v : Value} {x y : Str} (p : IsTT h v x y) (k : ∀ b o, h.get? b = some o → o.cls = .type "tuple" → h'.get? b = some o) : IsTT h' v x y := by
  obtain ⟨a, o, t, u, n, e, ho, hc, hd⟩ := p
  exact ⟨a, o, t, u, n, e, k _ _ ho hc, hc, hd⟩
theorem firstsT {h : Heap} : ∀ {vs : List Value}, (∀ v ∈ vs, ∃ x y, IsTT h v x y) → ∃ fs : List Value, PySem.W.KatTups h vs fs ∧ fs.length = vs.length ∧ ∀ f ∈ fs, ∃ x t, f = Value.str x t
  | [], _ => ⟨[], PySem.W.KatTups.nil, rfl, fun _ hm => by simp at hm⟩
  | v :: vs, hp => by
    obtain ⟨fs, h1, h2, h3⟩ := firstsT (vs := vs) fun v' hm => hp v' (List.mem_cons_of_mem _ hm)
    obtain ⟨x, y, a, o, t, u, n, rfl, ho, hc, hd⟩ := hp v List.mem_cons_self
    exact ⟨.str x t :: fs, PySem.W.KatTups.cons ho hc hd rfl h1, by rw [List.length_cons, List.length_cons, h2], fun f hm => (List.mem_cons.mp hm).elim (fun e => ⟨x, t, e⟩) (h3 f)⟩
section
variable {prog : Program} {w : World} {A : Around} {E : Value → Shared → Prop} {s : Shared}
theorem tt_cmp {vs : List Value} {k : Value → Str × Str} (hp : ∀ v ∈ vs, IsTT s.heap v (k v).1 (k v).2) : SrtO.Cmp prog w A s (tuples' true) (fun p => p.1 ∈ vs) (SrtO.lt2 fun v u => lexS (k v) (k u)) := by
  intro p q hm hm'
  have h1 := hp _ hm
  have h2 := hp _ hm'
  show wpAny (model prog w) A (keyLt' (tuples' true) p.1 q.1) (fun r s' => s' = s ∧ r = lexS (k p.1) (k q.1)) (fun _ _ => False) s
  generalize k p.1 = P at h1 ⊢
  generalize k q.1 = R at h2 ⊢
  obtain ⟨x, y⟩ := P
  obtain ⟨x', y'⟩ := R
  obtain ⟨a, o, t, u, n, e, ho, hc, hd⟩ := h1
  obtain ⟨a', o', t', u', n', e', ho', hc', hd'⟩ := h2
  dsimp only at hd hd'
  rw [e, e']
  refine PySem.W.kat_lt ho hd ho' hd' (show PySem.W.KatLex prog w A true (decide (2 < 2)) _ [(.str x t, .str x' t'), (.str y u, .str y' u')] 0 s from PySem.W.kat_cons (SeqAt.EqAt.str_str x t x' t' prog w _ _ (PySem.W.kat_go (fun e1 => ?_) fun e1 => ?_)))
  · have ex : x = x' := by simpa using e1
    refine PySem.W.kat_yes (PySem.W.kat_cons (SeqAt.EqAt.str_str y u y' u' prog w _ _ (PySem.W.kat_go (fun e2 => ?_) fun e2 => ?_)))
    · have ey : y = y' := by simpa using e2
      refine PySem.W.kat_yes (PySem.W.kat_nil ⟨rfl, ?_⟩)
      refine (lexS_no.mpr ?_).symm
      rintro (z | ⟨_, z⟩)
      · exact sLt_irrefl _ (show sLt x' x' from ex ▸ z)
      · exact sLt_irrefl _ (show sLt y' y' from ey ▸ z)
    · have e3 : lexS (x, y) (x', y') = decide (sLt y y') := if_pos ex
      exact PySem.W.kat_no (PySem.W.kat_one _ _ (PySem.P.lt_str (show s = s ∧ decide (sLt y y') = lexS (x, y) (x', y') from ⟨rfl, e3.symm⟩)))
  · have ex : ¬ x = x' := by simpa using e1
    have e3 : lexS (x, y) (x', y') = decide (sLt x x') := if_neg ex
    exact PySem.W.kat_no (oneLt_str (show s = s ∧ decide (sLt x x') = lexS (x, y) (x', y') from ⟨rfl, e3.symm⟩))
theorem tt_sortable {a : Addr} {vs : List Value} {k : Value → Str × Str} (h0 : 0 < vs.length) (hp : ∀ v ∈ vs, IsTT s.heap v (k v).1 (k v).2) (ha : ∀ o, s.heap.get? a = some o → o.cls ≠ .type "tuple") : SrtO.SortableO prog w A s a vs fun v u => lexS (k v) (k u) := by
  intro h' keep
  have hp' : ∀ v ∈ vs, IsTT h' v (k v).1 (k v).2 := fun v hm => (hp v hm).keeps fun b o e c => keep b o (fun z => by subst z; exact ha o e c) e
  obtain ⟨fs, h1, h2, h3⟩ := firstsT fun v hm => ⟨_, _, hp' v hm⟩
  refine ⟨tuples' true, fun Q E hq => PySem.W.kat_kind (T := .type "str") h1 (by omega) (fun f hm => ?_) (by rfl) ?_, tt_cmp hp'⟩
  · obtain ⟨x, t, rfl⟩ := h3 f hm
    exact PySem.W.Looks.now
  · have e : (Value.type "str" != Value.type "tuple") = true := by decide +kernel
    rw [e]
    exact hq
theorem sorted_tt {l : Addr} {vs : List Value} {k : Value → Str × Str} {Q : Value → Shared → Prop} (hl : s.heap.IsList l vs.toArray) (hz : vs.length ≤ sizeLine) (hp : ∀ v ∈ vs, IsTT s.heap v (k v).1 (k v).2)
    (h : ∀ (h' : Heap) (d : Addr) (out : List Value), Srtd (fun v u => lexS (k v) (k u)) out → out.Perm vs → (∀ b o, s.heap.get? b = some o → h'.get? b = some o) → s.heap.objs.size ≤ d → (∃ n, h'.get? d = some (seqObj "list" out.toArray n)) →
      Q (.ref d) { s with heap := h' }) : wpAny (model prog w) A (call (.builtin "sorted") [.ref l]) Q E s := by
  refine SrtO.sorted_ord (swo_lexS k) hl hz (fun h2 h₁ a ha kk => ?_) fun out hs hb => h _ _ out hs hb.perm (fun b o e => PyProof.Rows.sortedAll_old e) (Nat.le_succ _) (PyProof.Rows.sortedAll_at s.heap vs out.toArray)
  refine tt_sortable (s := { s with heap := h₁ }) (by omega) (fun v hm => (hp v hm).keeps fun b o e _ => (kk b o e).2) fun o e c => ?_
  have e' : some o = some (seqObj "list" vs.toArray 0) := e.symm.trans ha
  cases e'
  exact absurd (Value.type.inj c) (by decide)
end
section
variable {X : Cx}
/-- sorted(l), l a list of pairs of texts -/
def rSortTT (K : PySem.W.Frag) : List V → Hp → VK → Prop := fun vs H Q => ∃ (a : Addr) (ts : List Addr) (k : Addr → Str × Str), vs = [V.ref a] ∧ SqL K H a (ts.map V.ref) ∧ (∀ t ∈ ts, H t = some (.tup [.str (k t).1, .str (k t).2])) ∧
  ∀ (us : List Addr) (p : Addr), us.Perm ts → us.Pairwise (fun x y => lexS (k y) (k x) = false) → H p = none → Q (.ref p) (upd H p (.lst (us.map V.ref)))
def refOf : Value → Addr
  | .ref a => a
  | _ => 0
theorem cr_sortTT : CallR X (.builtin "sorted") (rSortTT X.K) := by
  intro pins s σ H vs us Q I r h
  obtain ⟨a, ts, k, rfl, hs, hx, q⟩ := h
  obtain ⟨its, rv, hl, hz⟩ := I.list hs
  obtain ⟨u, rfl, ru⟩ := vals1 r
  obtain rfl : u = Value.ref a := ru
  have ei := refs_at rv
  subst ei
  refine sorted_tt (k := fun u => k (refOf u)) hl.isList (by rw [List.length_map] at hz ⊢; exact hz) (fun v hv => ?_) fun h' d out h1 h2 kp hd hn => ?_
  · obtain ⟨t, ht, rfl⟩ := List.mem_map.mp hv
    obtain ⟨_, its2, r2, o, ho, hc, n, hdt⟩ := I.hok _ _ (hx t ht)
    obtain ⟨u1, u2, rfl, ri, rj⟩ := vals2 r2
    obtain ⟨t1, rfl⟩ := ri
    obtain ⟨t2, rfl⟩ := rj
    exact ⟨t, o, t1, t2, n, rfl, ho, hc, hdt⟩
  · have h3 : ∀ u ∈ out, u = Value.ref (refOf u) := fun u hu => by
      obtain ⟨t, _, rfl⟩ := List.mem_map.mp (h2.mem_iff.mp hu)
      rfl
    have eo : out = (out.map refOf).map Value.ref := by
      rw [List.map_map]
      have : out.map (fun u => u) = out.map (Value.ref ∘ refOf) := List.map_congr_left fun u hu => h3 u hu
      simpa using this
    have pm : (out.map refOf).Perm ts := by
      have := h2.map refOf
      rw [List.map_map] at this
      have e : ts.map (refOf ∘ Value.ref) = ts := by
        have e2 : ts.map (refOf ∘ Value.ref) = ts.map (fun t => t) := List.map_congr_left fun t _ => rfl
        simpa using e2
      rwa [e] at this
    obtain ⟨n, hn⟩ := hn
    have vv : Vals ((out.map refOf).map V.ref) out := by
      have go : ∀ l : List Addr, Vals (l.map V.ref) (l.map Value.ref) := fun l => by
        induction l with
        | nil => exact .nil
        | cons a l ih => exact .cons rfl ih
      have := go (out.map refOf)
      rw [← eo] at this
      exact this
    refine ⟨.ref d, upd H d (.lst ((out.map refOf).map V.ref)), I.laid (t' := s.toks) kp hd ⟨?_, out, n, vv, hn⟩, rfl, q _ d pm (List.pairwise_map.mpr h1) (I.hok.fresh hd)⟩
    rw [List.length_map, pm.length_eq]
    rw [List.length_map] at hz
    exact hz
/-- dict(zip(a, b)): two lists of one length, the first of texts -/
def tDictZip (K : PySem.W.Frag) (ta : TA) : TE := fun σ H Q => ta σ H fun vs H1 => ∃ (a b : Addr) (ks : List Str) (ys : List V), vs = [.ref a, .ref b] ∧ SqL K H1 a (ks.map V.str) ∧ SqL K H1 b ys ∧ ks.length = ys.length ∧
  ∀ p, H1 p = none → Q (.ref p) (upd H1 p (.dK (mergeK [] ((ks.map Sum.inr).zip ys))))
theorem kv_zip : ∀ {ks : List Str} {ys : List V} {us : List Value}, Vals ys us → KV ((ks.map (Sum.inr : Str → Key)).zip ys) ((ks.map (Sum.inr : Str → Key)).zip us)
  | [], _, _, _ => .nil
  | _ :: _, [], _, r => by cases r; exact .nil
  | k :: ks, y :: ys, _, r => by
    cases r with
    | cons h t => exact .cons ⟨rfl, h⟩ (kv_zip t)
theorem pe_dictZip {e e2 : Expr} {ta : TA} {p p2 q pos : Pos} (hc : X.calm = true) (hg : Gl X "dict") (hm : X.mg "dict" = none) (hg2 : Gl X "zip") (hm2 : X.mg "zip" = none) (ha : PA X [e, e2] ta)
    (hb : bootBuiltins "dict" = some (.type "dict") := by decide +kernel)
    (he : starEach [.Call (.Name "zip" p2) [e, e2] [] q] X.env = (false, eval (.Call (.Name "zip" p2) [e, e2] [] q) X.env) :: starEach [] X.env := by rfl)
    (hs : starEach [e, e2] X.env = (false, eval e X.env) :: starEach [e2] X.env := by rfl) (hpl : (backTo q (starEach [e2] X.env)).any (·.1) = false := by rfl) :
    PE X (.Call (.Name "dict" p) [.Call (.Name "zip" p2) [e, e2] [] q] [] pos) (tDictZip X.K ta) := by
  refine ⟨fun pins s σ H Q I h => ?_⟩
  refine wpAny_Call_Name_kw (ld_blt I hg hm hb ?_)
  refine PyProof.Rows.callWith_type1 ?_ he (by rfl)
  rw [he]
  show wpAny _ _ (spliced ((false, eval (.Call (.Name "zip" p2) [e, e2] [] q) X.env) :: backTo pos (starEach [] X.env))) _ _ s
  refine Calls.spliced_cons (wpAny_Call_Name_kw (ld_blt I hg2 hm2 boot_zip (PyProof.Rows.callWith_type1 (thn (ha.run q pins s σ H _ I h) fun us s1 ⟨vs, H1, I1, r1, a, b, ks, ys, ex, hqx, hqy, hl, q1⟩ => ?_) hs hpl)))
  subst ex
  obtain ⟨v1, v2, rfl, ra, rb⟩ := vals2 r1
  obtain rfl : v1 = Value.ref a := ra
  obtain rfl : v2 = Value.ref b := rb
  obtain ⟨its, rv, p1, z1⟩ := I1.list hqx
  obtain ⟨its2, rv2, p2', z2⟩ := I1.list hqy
  have la := p1.lt
  have lb := p2'.lt
  refine call_zip_2 p1.isList p2'.isList fun h' hz hTI hTO h1 h2 hsz hk => Calls.spliced_nil ?_
  have I2 : Inv X pins σ H1 { s1 with heap := h' } := I1.kept (t' := s1.toks) hk
  have l1 : its.length = ks.length := by
    have := rv.length
    rw [List.length_map] at this
    exact this.symm
  have l2 : its2.length = ys.length := rv2.length.symm
  rw [List.length_map] at z1
  have lz : ((ks.map (Sum.inr : Str → Key)).zip its2).length = ks.length := by
    rw [List.length_zip, List.length_map]
    omega
  refine PySem.call_dict_pairs (knd := mixKind X.prog X.w) (s := { s1 with heap := h' }) (kvs := (ks.map (Sum.inr : Str → Key)).zip its2) (PySem.PairArg.zip _ _ _ _ _ a b (PySem.W.ktu_apart s1.heap.objs.size a b la lb) its.toArray its2.toArray) (I2.ok.hd hc)
    ⟨hz, hTI, ⟨_, _, hTO⟩, h1, h2, (p1.isList).at fun o e => hk _ o e, (p2'.isList).at fun o e => hk _ o e⟩ ⟨?_, fun i key v hkv => ?_⟩ ?_ fun h'' tk hd'' k2 => ?_
  · rw [lz, List.size_toArray, List.size_toArray]
    omega
  · obtain ⟨e1, e2⟩ := hkv
    rw [List.getElem?_toArray] at e1 e2
    have ik : i < ks.length := by
      have := (List.getElem?_eq_some_iff.mp e1).1
      omega
    have ek : (ks.map V.str)[i]? = some (.str ks[i]) := by rw [List.getElem?_map, List.getElem?_eq_getElem ik]; rfl
    refine ⟨Sum.inr ks[i], ?_, kV_is (k := Sum.inr ks[i]) (vals_get' rv i ek e1)⟩
    rw [List.getElem?_zip_eq_some]
    exact ⟨by rw [List.getElem?_map, List.getElem?_eq_getElem ik]; rfl, e2⟩
  · rw [List.size_toArray, List.size_toArray]
    omega
  · have kp : ∀ c o, s1.heap.get? c = some o → h''.get? c = some o := fun c o e => k2 c o (fun hm => by
      have lt := Heap.lt_size e
      simp only [List.mem_cons, List.not_mem_nil, or_false] at hm
      rcases hm with z | z | z | z <;> rw [z] at lt
      · exact absurd lt (Nat.not_lt_of_le (Nat.le_add_right _ _))
      · exact absurd lt (Nat.not_lt_of_le (Nat.le_add_right _ _))
      · exact absurd lt (Nat.lt_irrefl _)
      · exact absurd lt (Nat.not_lt_of_le (Nat.le_add_right _ _))) (hk c o e)
    have sz : s1.heap.objs.size ≤ h'.objs.size := by omega
    have big : (h'.objs.size == sysModules) = false := beq_eq_false_iff_ne.mpr (Nat.ne_of_gt (Nat.lt_of_lt_of_le I1.big sz))
    have rel : KV (mergeK [] ((ks.map (Sum.inr : Str → Key)).zip ys)) (merged [] ((ks.map (Sum.inr : Str → Key)).zip its2)) := KV.merge (kv_zip rv2) .nil
    have len : (mergeK [] ((ks.map (Sum.inr : Str → Key)).zip ys)).length ≤ sizeLine := by
      refine Nat.le_trans (length_mergeK _ []) ?_
      rw [List.length_nil, Nat.zero_add, List.length_zip, List.length_map]
      omega
    exact ⟨.ref h'.objs.size, _, I1.laid (t' := tk) kp sz (show ObjOk X.prog X.w _ _ _ (.dK _) from ⟨len, big, _, rel, hd''⟩), rfl, q1 _ (I1.hok.fresh sz)⟩
where vals_get' : ∀ {xs : List V} {us : List Value}, Vals xs us → ∀ (i : Nat) {x : V} {u : Value}, xs[i]? = some x → us[i]? = some u → RelV x u
  | _, _, .nil, i, x, u, h, _ => by simp at h
  | _, _, .cons r t, 0, x, u, h, h' => by
    rw [List.getElem?_cons_zero] at h h'
    rw [← Option.some.inj h, ← Option.some.inj h']
    exact r
  | _, _, .cons r t, i + 1, x, u, h, h' => by
    rw [List.getElem?_cons_succ] at h h'
    exact vals_get' t i h h'
end
end AL
set_option Elab.async false
set_option linter.all false
set_option maxRecDepth 100000
set_option maxHeartbeats 4000000
namespace AL
open PySem PySem.Spec PyProof.Rows L2
/-! ### a dict that may be locked already -/
section
variable {X : Cx}
theorem call_lenR : CallR X (.builtin "len") (fun xs H Q => ∃ a kvs, xs = [V.ref a] ∧ Rd H a (.dK kvs) ∧ Q (.int kvs.length) H) := by
  intro pins s σ H xs us Q I r h
  obtain ⟨a, kvs, rfl, ha, q⟩ := h
  obtain ⟨u, rfl, ru⟩ := vals1 r
  cases ru
  exact d_len I ha fun t s' I' => ⟨.int kvs.length, H, I', ⟨t, rfl⟩, q⟩
/-- locked while the expression runs; or locked as it is -/
def tMayE (t : TE) : TE := fun σ H Q => (∃ d u od, H d = some (.frz od u) ∧ t σ H fun v H' => H' d = some (.frz od u) ∧ Q v H') ∨ tLockE t σ H Q
theorem pe_may {e : Expr} {t : TE} (h : PE X e t) : PE X e (tMayE t) := by
  refine ⟨fun pins s σ H Q I hw => ?_⟩
  rcases hw with ⟨d, u, od, hd, hw⟩ | hw
  · exact thn (h.run pins s σ H _ I hw) fun v s1 ⟨x, H1, I2, r, e2, q⟩ => ⟨x, H1, I2, r, q⟩
  · exact (pe_lock h).run pins s σ H Q I hw
def tMay (t : TS) : TS := fun D σ H => (∃ d u od, H d = some (.frz od u) ∧ t ⟨fun σ' H' => H' d = some (.frz od u) ∧ D.nx σ' H', fun v H' => H' d = some (.frz od u) ∧ D.rt v H', fun σ' H' => H' d = some (.frz od u) ∧ D.bk σ' H', fun σ' H' => H' d = some (.frz od u) ∧ D.ct σ' H'⟩ σ H) ∨ tLock t D σ H
theorem ps_may {st : Stmt} {t : TS} (h : PS X st t) : PS X st (tMay t) := by
  refine ⟨fun pins s σ H D I hw => ?_⟩
  rcases hw with ⟨d, u, od, hd, hw⟩ | hw
  · refine thn (h.run pins s σ H _ I hw) fun f s1 q => ?_
    cases f with
    | next => obtain ⟨σ', H', I2, e, q⟩ := q; exact ⟨σ', _, I2, q⟩
    | brk => obtain ⟨σ', H', I2, e, q⟩ := q; exact ⟨σ', _, I2, q⟩
    | cont => obtain ⟨σ', H', I2, e, q⟩ := q; exact ⟨σ', _, I2, q⟩
    | ret v => obtain ⟨x, σ', H', I2, r, e, q⟩ := q; exact ⟨x, σ', _, I2, r, q⟩
  · exact (ps_lock h).run pins s σ H D I hw
end
/-- locked, and back -/
structure Lk (d : Addr) (u : HO) (od : Obj) (H H0 : Hp) (bk : Hp → Hp) : Prop where
  f : H0 d = some (.frz od u)
  o : ∀ {b : Addr}, b ≠ d → H0 b = H b
  b1 : ∀ {H' : Hp}, H' d = some (.frz od u) → bk H' d = H d
  b2 : ∀ {H' : Hp} {b : Addr}, b ≠ d → bk H' b = H' b
section
variable {σ : L2.St} {H : Hp} {d : Addr} {u : HO}
theorem Lk.locked {od : Obj} (hd : H d = some u) : Lk d u od H (upd H d (.frz od u)) fun H' => upd H' d u :=
  ⟨upd_same, fun n => upd_ne n, fun _ => by rw [upd_same, hd], fun n => upd_ne n⟩
theorem Lk.asis {od : Obj} (hd : H d = some (.frz od u)) : Lk d u od H H fun H' => H' :=
  ⟨hd, fun _ => rfl, fun e => e.trans hd.symm, fun _ => rfl⟩
theorem may_of {t : TE} {Q : VK} (hd : Rd H d u) (mu : Mut (some u)) (h : ∀ (od : Obj) (H0 : Hp) (bk : Hp → Hp), Lk d u od H H0 bk → t σ H0 fun v H' => H' d = some (.frz od u) ∧ Q v (bk H')) : tMayE t σ H Q := by
  rcases hd with hd | ⟨od, hd⟩
  · exact .inr ⟨d, u, hd, mu, fun od => h od _ _ (.locked hd)⟩
  · exact .inl ⟨d, u, od, hd, h od _ _ (.asis hd)⟩
theorem may_ofS {t : TS} {D : Ends} (hd : Rd H d u) (mu : Mut (some u)) (h : ∀ (od : Obj) (H0 : Hp) (bk : Hp → Hp), Lk d u od H H0 bk →
    t ⟨fun σ' H' => H' d = some (.frz od u) ∧ D.nx σ' (bk H'), fun v H' => H' d = some (.frz od u) ∧ D.rt v (bk H'), fun σ' H' => H' d = some (.frz od u) ∧ D.bk σ' (bk H'), fun σ' H' => H' d = some (.frz od u) ∧ D.ct σ' (bk H')⟩ σ H0) : tMay t D σ H := by
  rcases hd with hd | ⟨od, hd⟩
  · exact .inr ⟨d, u, hd, mu, fun od => h od _ _ (.locked hd)⟩
  · exact .inl ⟨d, u, od, hd, h od _ _ (.asis hd)⟩
theorem Lk.ne {od : Obj} {H0 : Hp} {bk : Hp → Hp} {b : Addr} {o : HO} (hd : Rd H d u) (h : H b = some o) (n1 : o ≠ u) (n2 : ∀ od, o ≠ .frz od u) : b ≠ d := fun z => by
  rw [z] at h
  rcases hd with e | ⟨od, e⟩
  · rw [e] at h
    exact n1 (Option.some.inj h).symm
  · rw [e] at h
    exact n2 od (Option.some.inj h).symm
theorem Lk.same {od : Obj} {H0 H1 : Hp} {bk : Hp → Hp} (L : Lk d u od H H0 bk) (s : Same H0 H1) : Same H (bk H1) := fun b o e => by
  by_cases z : b = d
  · rw [z] at e ⊢
    rw [L.b1 (s _ _ L.f)]
    exact e
  · rw [L.b2 z]
    exact s _ _ (by rw [L.o z]; exact e)
/-- what the lock lets through -/
theorem Lk.get {od : Obj} {H0 : Hp} {bk : Hp → Hp} {b : Addr} {o : HO} (L : Lk d u od H H0 bk) (hd : Rd H d u) (h : H b = some o) (n1 : o ≠ u) (n2 : ∀ od, o ≠ .frz od u) : H0 b = some o := by
  rw [L.o (Lk.ne (od := od) (H0 := H0) (bk := bk) hd h n1 n2)]
  exact h
theorem Lk.none {od : Obj} {H0 : Hp} {bk : Hp → Hp} {b : Addr} (L : Lk d u od H H0 bk) (h : H0 b = none) : H b = none := by
  have z : b ≠ d := fun z => by rw [z, L.f] at h; cases h
  rw [← L.o z]
  exact h
end
end AL
set_option Elab.async false
set_option linter.all false
set_option maxRecDepth 100000
set_option maxHeartbeats 4000000
namespace A8
open PySem PySem.Spec PyProof.Rows L2 AL
open GxR (TabB TabG Tabbed)
/-! ### the abstract heap: what stays -/
structure Ext (Ps : List Addr) (H H' : Hp) : Prop where
  kp : ∀ b o, H b = some o → b ∉ Ps → H' b = some o
  tb : ∀ p ∈ Ps, TabG H p → TabG H' p
def Tabs (Ps : List Addr) (H : Hp) : Prop := ∀ p ∈ Ps, TabG H p
section
variable {Ps : List Addr} {H H1 H2 : Hp}
theorem Ext.refl : Ext Ps H H := ⟨fun _ _ h _ => h, fun _ _ h => h⟩
theorem Ext.trans (a : Ext Ps H H1) (b : Ext Ps H1 H2) : Ext Ps H H2 := ⟨fun c o h n => b.kp c o (a.kp c o h n) n, fun p hp h => b.tb p hp (a.tb p hp h)⟩
theorem Ext.tabs (a : Ext Ps H H1) (t : Tabs Ps H) : Tabs Ps H1 := fun p hp => a.tb p hp (t p hp)
/-- a tracked thing that is no table stays -/
theorem Ext.get (a : Ext Ps H H1) (t : Tabs Ps H) {b : Addr} {o : HO} (h : H b = some o) (n : ∀ ps, o ≠ .tbl ps) : H1 b = some o :=
  a.kp b o h fun hp => by
    obtain ⟨ps, e, _⟩ := t b hp
    rw [h] at e
    exact n ps (Option.some.inj e)
theorem Ext.tabbed {P : Addr} (hP : P ∈ Ps) (h : Tabbed P H H1) : Ext Ps H H1 :=
  ⟨fun b o e n => by rw [h.2 b fun z => n (z ▸ hP)]; exact e, fun p hp e => by
    by_cases z : p = P
    · rw [z]; exact h.1
    · obtain ⟨ps, e1, e2⟩ := e
      exact ⟨ps, by rw [h.2 p z]; exact e1, e2⟩⟩
/-- a new thing -/
theorem Ext.new {b : Addr} {o : HO} (h : H b = none) : Ext Ps H (upd H b o) :=
  ⟨fun c u e _ => by rw [upd_ne (ne_of_none e h)]; exact e, fun p _ e => by
    obtain ⟨ps, e1, e2⟩ := e
    exact ⟨ps, by rw [upd_ne (ne_of_none e1 h)]; exact e1, e2⟩⟩
/-- a thing is written that was not there at first -/
theorem Ext.put {b : Addr} {o : HO} (a : Ext Ps H H1) (h : H b = none) (n : b ∉ Ps) : Ext Ps H (upd H1 b o) :=
  ⟨fun c u e z => by rw [upd_ne (ne_of_none e h)]; exact a.kp c u e z, fun p hp e => by
    obtain ⟨ps, e1, e2⟩ := a.tb p hp e
    exact ⟨ps, by rw [upd_ne fun z => n (by rw [← z]; exact hp)]; exact e1, e2⟩⟩
theorem notPs {b : Addr} (t : Tabs Ps H) (h : H b = none) : b ∉ Ps := fun hp => by
  obtain ⟨ps, e, _⟩ := t b hp
  rw [h] at e
  cases e
theorem notPs' {b : Addr} {o : HO} (t : Tabs Ps H) (h : H b = some o) (n : ∀ ps, o ≠ .tbl ps) : b ∉ Ps := fun hp => by
  obtain ⟨ps, e, _⟩ := t b hp
  rw [h] at e
  exact n ps (Option.some.inj e)
theorem tabs_upd {b : Addr} {o : HO} (t : Tabs Ps H) (n : b ∉ Ps) : Tabs Ps (upd H b o) := fun p hp => by
  obtain ⟨ps, e1, e2⟩ := t p hp
  exact ⟨ps, by rw [upd_ne fun z => n (by rw [← z]; exact hp)]; exact e1, e2⟩
end
/-! ### names -/
def NameOk (x : Str) : Prop := 1 ≤ x.cps.size ∧ x.cps.size ≤ 8 ∧ ∀ c ∈ x.cps.toList, 97 ≤ c ∧ c ≤ 122
/-- a def whose code object is known -/
theorem okC {P : Program} {w : World} {K : PySem.W.Frag} {mg : Str → Option Value} {base : Heap} {k : Nat} {f c : Addr} {fd : FuncData} {x qual : Str} {params : Arguments} {body : List Stmt} {scope : Scope} {dvs : List V} {kws : List (Str × V)} {N ps : List Str} {sp : Sp}
    (F : FunD K x qual params body scope dvs kws f fd) (hc : fd.code = .ref c) (S : FnScope N ps scope) (len : ∀ vs H Q E, sp vs H Q E → vs.length = ps.length)
    (hbody : ∀ (A : Around) (outer : List Env) (s : Shared) (H : Hp) (vs : List V) (Q : VK) (E : XK), Room k (A.deeper (envOfC qual scope s.heap.objs.size f (.ref c))) → sp vs H Q E →
      ∃ t, PSs (cxOf CX0 P w K mg base N qual scope f (.ref c) A outer s H E).nox body t ∧ t { nx := fun _ H' => Q .non H', rt := Q } (start N vs) H) : FnOk P w K mg base CX0 (k + 1) f fd ps sp := by
  obtain ⟨oc, od, dV, kV, doc, pm, an, cdv, ct, osl, rfl, lk, hcd, _, _⟩ := F.ex
  obtain rfl : cdv = .ref c := hc
  refine fn_of lk hcd S len fun A outer s H vs Q E hr hsp => ?_
  obtain ⟨t, h, q⟩ := hbody A outer s H vs Q E hr hsp
  exact ⟨t, h.nox, q⟩
theorem code_at {K : PySem.W.Frag} {x qual : Str} {params : Arguments} {body : List Stmt} {scope : Scope} {dvs : List V} {kws : List (Str × V)} {p : He.Defn} {fd : FuncData} (F : FunD K x qual params body scope dvs kws (He.fAd K p) fd) : fd.code = .ref (He.codeOf K p) := by
  obtain ⟨oc, od, dV, kV, doc, pm, an, cdv, ct, osl, rfl, lk, hcd, _, _⟩ := F.ex
  obtain ⟨c, rfl⟩ := He.codeIn_ref hcd
  rw [He.codeOf_eq lk rfl]
/-- a def that may be called by its name -/
structure Cal (P : Program) (w : World) (K : PySem.W.Frag) (mg : Str → Option Value) (base : Heap) (k : Nat) (x : Str) (sp : Sp) : Prop where
  ex : ∃ (f : Addr) (fd : FuncData) (ps : List Str), FnOk P w K mg base CX0 k f fd ps sp ∧ mg x = some (.ref f) ∧ PySem.W.keepIn K (.ref f) = true ∧ Binds K fd ps []
section
variable {X : Cx} {k j : Nat} {x : Str} {sp : Sp} {p pos : Pos} {e : Expr} {es : List Expr} {t : TA}
theorem pe_c (c : Cal X.prog X.w X.K X.mg X.base k x sp) (hr : Room j X.A) (hk : k ≤ j) (hg : Gl X x) (ha : PA X (e :: es) t)
    (hdb : (x == ("__debug__" : Str)) = false := by decide) (he : starEach (e :: es) X.env = (false, eval e X.env) :: starEach es X.env := by rfl) (hpl : (backTo pos (starEach es X.env)).any (·.1) = false := by rfl) :
    PE X (.Call (.Name x p) (e :: es) [] pos) (tCall sp [] E0 t) := by
  obtain ⟨f, fd, ps, F, hm, kp, b⟩ := c.ex
  exact pe_call F (hr.mono hk) hg hm kp b .nil pass0 ha hdb he hpl
end
end A8
set_option Elab.async false
set_option linter.all false
set_option maxRecDepth 100000
set_option maxHeartbeats 4000000
namespace A8
open PySem PySem.Spec PyProof.Rows L2 AL
open GxR (TabB TabG Tabbed)
abbrev PR : Program := PySem.Challenge.pw_asklines_k49_lines_and_logs_written
def top (i : Nat) : Stmt := PR.main.body.getD i (.Pass ⟨0, 0, 0, 0⟩)
abbrev sIsName : Stmt := top 8
theorem scIsName : FnScope ["value", "letter"] ["value"] (defScope sIsName) := ⟨rfl, rfl, rfl, by decide +kernel, rfl, by decide +kernel, by decide +kernel⟩
def spIsName (Ps : List Addr) : Sp := fun vs H Q _ => ∃ x : Str, vs = [.str x] ∧ NameOk x ∧ Tabs Ps H ∧ ∀ H', Ext Ps H H' → Q (.bl true) H'
theorem lt_one {a b : Nat} : [a] < [b] ↔ a < b := by
  constructor
  · intro h
    cases h with
    | rel h => exact h
    | cons h => cases h
  · exact fun h => .rel h
section
variable {P : Program} {w : World} {K : PySem.W.Frag} {mg : Str → Option Value} {base : Heap} {f c p1 : Addr} {fd : FuncData} {Ps : List Addr}
theorem ok_isName (F : FunD K "is_name" "is_name" (defArgs sIsName) (defBody sIsName) (defScope sIsName) [] [] f fd) (hc : fd.code = .ref c) (TB : TabB base mg c p1) (hp : p1 ∈ Ps)
    (gI : mg "isinstance" = none) (gA : mg "all" = none) (gL : mg "len" = none) (gS : mg "str" = none) {tk : Tok} (gM : mg "MOST_LETTERS" = some (.int 8 tk)) : FnOk P w K mg base CX0 2 f fd ["value"] (spIsName Ps) := by
  refine okC F hc scIsName (fun vs H Q E h => ?_) ?_
  · obtain ⟨x, rfl, _⟩ := h
    rfl
  intro A outer s H vs Q E hr h
  refine ⟨_, pss_one (ps_ret (pe_and (pe_callB call_isi rfl gI (by decide +kernel) (pa_cons (pv 0) (pa_cons (pe_bltn (u := .type "str") (v := .ty "str") rfl gS (by decide +kernel) rfl) pa_nil)))
      (pe_and (pe_chain op_le op_le pe_int (pe_callB call_len_str rfl gL boot_len (pa_cons (pv 0) pa_nil)) (pe_glob (v := .int 8) rfl gM ⟨_, rfl⟩))
        (pe_one (pe_allG (k := 0) (own := [("letter", 1)]) hr rfl scIsName.nd rfl gA TB rfl (gOk_by (N := ["value", "letter"]) (sc := defScope sIsName) (by decide +kernel) rfl (by decide +kernel) rfl) (pi_str (pv 0)) (fun s H C cl code fp A pn => pg_name (i := 1) scIsName.nd rfl (Or.inl rfl))
          (fun s H C cl code fp A pn hr => pe_chain op_le_str op_le_str pe_str (pv 1) pe_str)))))), ?_⟩
  obtain ⟨x, rfl, ⟨n1, n8, nc⟩, ht, hQ⟩ := h
  have hl : x.length = x.cps.size := rfl
  refine ⟨_, rfl, _, _, .type "str", .type "str", true, rfl, .ty "str", .base (.str x), kit_ty (by decide +kernel), true, rfl, ?_⟩
  refine iteT ?_
  refine ⟨_, rfl, x, rfl, by rw [hl, sizeLine_eq]; omega, _, _, rfl, rfl, true, congrArg V.bl (decide_eq_true (by rw [hl]; omega)), ?_⟩
  refine iteT ?_
  refine ⟨_, _, rfl, rfl, true, congrArg V.bl (decide_eq_true (by rw [hl]; omega)), ?_⟩
  refine iteT ?_
  refine ⟨_, rfl, x, rfl, ht _ hp, fun H2 hT => ?_⟩
  have e2 := Ext.tabbed hp hT
  refine ⟨fun i m H' => H' = H2 ∧ i ≤ x.cps.size ∧ m = x.cps.size - i, ⟨_, rfl, Nat.zero_le _, rfl⟩, ⟨?_⟩⟩
  rintro i m H' ⟨rfl, hi, rfl⟩
  by_cases q : i < x.cps.size
  · refine .inr ⟨q, ?_⟩
    rintro v _ ⟨rfl, ch, hc', rfl⟩
    have hm : ch ∈ x.cps.toList := Array.mem_toList_iff.mpr (Array.mem_of_getElem? hc')
    obtain ⟨c1, c2⟩ := nc ch hm
    refine ⟨rfl, _, rfl, _, _, rfl, rfl, true, congrArg (fun z => V.bl (!z)) (decide_eq_false fun z => ?_), ?_⟩
    · exact absurd (lt_one.mp (show [ch] < [97] from z)) (by omega)
    refine iteT ?_
    refine ⟨_, _, rfl, rfl, true, congrArg (fun z => V.bl (!z)) (decide_eq_false fun z => ?_), fun z => Bool.noConfusion z, fun _ => ⟨_, by omega, rfl, by omega, rfl⟩⟩
    exact absurd (lt_one.mp (show [122] < [ch] from z)) (by omega)
  · exact .inl ⟨Nat.le_of_not_lt q, hQ _ e2⟩
end
end A8
set_option Elab.async false
set_option linter.all false
set_option maxRecDepth 100000
set_option maxHeartbeats 4000000
namespace A8
open PySem PySem.Spec PyProof.Rows L2 AL
open GxR (TabB TabG Tabbed)
/-! ### all(.. for x in ..), every element true: by an invariant of the heap -/
section
variable {K : PySem.W.Frag} {a : Addr} {xs : List V} {g : TG} {te : TE} {σ0 : L2.St} {vs : List Nat} {QT QF : Hp → Prop} {H2 : Hp} {o : Obj} {kvs : List (Key × V)} {d : Addr}
theorem all_list (I : Hp → Prop) (h0 : I H2) (hl : ∀ H, I H → SqL K H a xs)
    (hs : ∀ (i : Nat) (x : V) (H : Hp) (Nx : VK), xs[i]? = some x → I H → (∀ H3, I H3 → Nx (.bl true) H3) → g x σ0 H fun σ2 H2 => wipe σ2 vs = σ0 ∧ te σ2 H2 Nx) (he : ∀ H, I H → QT H) :
    ∃ W : Nat → Nat → Hp → Prop, (∃ m, W 0 m H2) ∧ W1 K (Itl K a) g te σ0 vs false QT QF W := by
  refine ⟨fun i m H => I H ∧ i ≤ xs.length ∧ m = xs.length - i, ⟨_, h0, Nat.zero_le _, rfl⟩, ⟨?_⟩⟩
  rintro i m H ⟨hI, hi, rfl⟩
  by_cases q : i < xs.length
  · refine .inr ⟨⟨xs, xs[i], hl H hI, List.getElem?_eq_getElem q⟩, ?_⟩
    rintro x H' ⟨rfl, hx⟩
    exact hs i x _ _ (hx xs (hl _ hI)) hI fun H3 h3 => ⟨true, rfl, fun z => Bool.noConfusion z, fun _ => ⟨_, by omega, h3, q, rfl⟩⟩
  · exact .inl ⟨⟨xs, hl H hI, Nat.le_of_not_lt q⟩, he H hI⟩
theorem all_keys (I : Hp → Prop) (h0 : I H2) (hl : ∀ H, I H → H d = some (.frz o (.dK kvs)))
    (hs : ∀ (i : Nat) (k : Key) (v : V) (H : Hp) (Nx : VK), kvs[i]? = some (k, v) → I H → (∀ H3, I H3 → Nx (.bl true) H3) → g (kV k) σ0 H fun σ2 H2 => wipe σ2 vs = σ0 ∧ te σ2 H2 Nx) (he : ∀ H, I H → QT H) :
    ∃ W : Nat → Nat → Hp → Prop, (∃ m, W 0 m H2) ∧ W1 K (Itk d o kvs) g te σ0 vs false QT QF W := by
  refine ⟨fun i m H => I H ∧ i ≤ kvs.length ∧ m = kvs.length - i, ⟨_, h0, Nat.zero_le _, rfl⟩, ⟨?_⟩⟩
  rintro i m H ⟨hI, hi, rfl⟩
  by_cases q : i < kvs.length
  · refine .inr ⟨⟨hl H hI, q⟩, ?_⟩
    rintro x H' ⟨rfl, k, v, hx, rfl⟩
    exact hs i k v _ _ hx hI fun H3 h3 => ⟨true, rfl, fun z => Bool.noConfusion z, fun _ => ⟨_, by omega, h3, q, rfl⟩⟩
  · exact .inl ⟨⟨hl H hI, Nat.le_of_not_lt q⟩, he H hI⟩
end
section
variable {K : PySem.W.Frag} {g g1 : TG} {te ta : TE} {σ0 : L2.St} {vs0 vs1 : List Nat} {QT QF : Hp → Prop} {H2 : Hp} {o : Obj} {kvs : List (Key × V)} {d : Addr}
/-- all(e for k in d for y in d[k]): the heap stays -/
theorem all_keys2 (h0 : H2 d = some (.frz o (.dK kvs))) (L : Nat → Addr) (xs : Nat → List V) (m : Nat) (hm : ∀ i, (xs i).length < m) (hL : ∀ i k v, kvs[i]? = some (k, v) → SqL K H2 (L i) (xs i))
    (hs : ∀ (i : Nat) (k : Key) (v : V), kvs[i]? = some (k, v) → ∀ R : L2.St → Hp → Prop,
      (∀ σ1, wipe σ1 vs0 = σ0 → (∀ R1 : It → Hp → Prop, (∃ _u : Unit, R1 (Itl K (L i)) H2) → iList K ta σ1 H2 R1) →
        (∀ (j : Nat) (y : V) (Nx : VK), (xs i)[j]? = some y → Nx (.bl true) H2 → g1 y σ1 H2 fun σ2 H3 => wipe σ2 vs1 = σ1 ∧ te σ2 H3 Nx) → R σ1 H2) → g (kV k) σ0 H2 R) (he : QT H2) :
    ∃ W : Nat → Nat → Hp → Prop, (∃ m, W 0 m H2) ∧ W2 K (Itk d o kvs) g (iList K ta) g1 te σ0 vs0 vs1 false QT QF W := by
  refine ⟨fun i n H => H = H2 ∧ i ≤ kvs.length ∧ n = (kvs.length - i) * (m + 1) + m, ⟨_, rfl, Nat.zero_le _, rfl⟩, ⟨?_⟩⟩
  rintro i n H ⟨rfl, hi, rfl⟩
  by_cases q : i < kvs.length
  · refine .inr ⟨⟨h0, q⟩, ?_⟩
    rintro x H' ⟨rfl, k, v, hx, rfl⟩
    have e1 : (kvs.length - i) * (m + 1) = (kvs.length - (i + 1)) * (m + 1) + (m + 1) := by
      have : kvs.length - i = (kvs.length - (i + 1)) + 1 := by omega
      rw [this, Nat.add_mul, Nat.one_mul]
    have hmi := hm i
    refine hs i k v hx _ fun σ1 w1 hi1 hte => ⟨w1, hi1 _ ⟨(), ?_⟩⟩
    have hl := hL i k v hx
    refine ⟨fun j n' H => H = H' ∧ j ≤ (xs i).length ∧ n' = (kvs.length - (i + 1)) * (m + 1) + m + 1 + ((xs i).length - j), ⟨_, ?_, rfl, Nat.zero_le _, rfl⟩, ⟨?_⟩⟩
    · omega
    rintro j n' H hn ⟨rfl, hj, rfl⟩
    by_cases q2 : j < (xs i).length
    · refine .inr ⟨⟨xs i, (xs i)[j], hl, List.getElem?_eq_getElem q2⟩, ?_⟩
      rintro y H3 ⟨rfl, hy⟩
      exact hte j y _ (hy _ hl) ⟨true, rfl, fun z => Bool.noConfusion z, fun _ => ⟨_, by omega, rfl, q2, rfl⟩⟩
    · exact .inl ⟨⟨xs i, hl, Nat.le_of_not_lt q2⟩, (kvs.length - (i + 1)) * (m + 1) + m, by omega, by omega, rfl, q, rfl⟩
  · exact .inl ⟨⟨h0, Nat.le_of_not_lt q⟩, he⟩
end
section
variable {J : It} {n : Nat} {G : Hp → Prop} {Y : Nat → Hp → V → Hp → Prop}
/-- {k: v for x in ..}: Pv by the turn and the heap (the new dict at D within) -/
theorem dc_it (w : Walk J n G Y) {g : TG} {tt : TT} {tk tv : TE} {vs : List Nat} {σ : L2.St} {H1 : Hp} {D : Addr} {Qd : Hp → Prop} (Pv : Nat → Hp → Prop) (h0 : Pv 0 (upd H1 D (.dK []))) (hG : ∀ i H, i ≤ n → Pv i H → G H)
    (hs : ∀ i x H H', i < n → Pv i H → Y i H x H' → g x (wipe σ vs) H' fun σ2 H2 => wipe σ2 vs = wipe σ vs ∧ tt σ2 H2 fun b H3 => if b = true then tk σ2 H3 fun y H4 => tv σ2 H4 fun z H5 => ∃ kvs k, y = kV k ∧ H5 D = some (.dK kvs) ∧
      kvs.length < sizeLine ∧ Pv (i + 1) (upd H5 D (.dK (putK kvs k z))) else Pv (i + 1) H3) (hd : ∀ H, Pv n H → Qd H) :
    ∃ W : Nat → Nat → Hp → Prop, (∃ m, W 0 m (upd H1 D (.dK []))) ∧ ∀ i m H, W i m H → (J.stop i H ∧ Qd H) ∨ (J.go i H ∧ ∃ Nx : Hp → Prop, (∀ H', Nx H' → ∃ m', m' < m ∧ W (i + 1) m' H') ∧
      ∀ x H', J.yld i H x H' → g x (wipe σ vs) H' fun σ2 H2 => wipe σ2 vs = wipe σ vs ∧ tt σ2 H2 fun b H3 => if b = true then tk σ2 H3 fun y H4 => tv σ2 H4 fun z H5 => ∃ kvs k, y = kV k ∧ H5 D = some (.dK kvs) ∧
        kvs.length < sizeLine ∧ Nx (upd H5 D (.dK (putK kvs k z))) else Nx H3) := by
  refine ⟨fun i m H => m + i = n ∧ Pv i H, ⟨n, Nat.add_zero n, h0⟩, ?_⟩
  rintro i m H ⟨e, p⟩
  have q := hG i H (by omega) p
  cases m with
  | zero =>
    obtain rfl : i = n := by omega
    exact .inl ⟨w.stops H q, hd H p⟩
  | succ m => exact .inr ⟨w.goes i H (by omega) q, Pv (i + 1), fun H' p' => ⟨m, Nat.lt_succ_self m, by omega, p'⟩, fun x H' y => hs i x H H' (by omega) p (w.yields i H x H' (by omega) q y)⟩
end
/-- x = e; ..: by what is known of e's value -/
theorem seq_asg {te : TE} {g : TG} {u : TS} {D : Ends} {σ : L2.St} {H : Hp} (R : V → Hp → Prop) (h1 : ∀ Q : VK, (∀ v H1, R v H1 → Q v H1) → te σ H Q) (h2 : ∀ v H1, R v H1 → g v σ H1 (u D)) : tSeq (tAsg te g) u D σ H := h1 _ h2
end A8
set_option Elab.async false
set_option linter.all false
set_option maxRecDepth 100000
set_option maxHeartbeats 4000000
namespace A8
open PySem PySem.Spec PyProof.Rows L2 AL
/-! ### lists of texts -/
theorem flat_strs : ∀ xs : List Str, (xs.map V.str).all flatV = true
  | [] => rfl
  | x :: xs => by
    rw [List.map_cons, List.all_cons, flat_strs xs]
    rfl
theorem inV_strs {x : Str} : ∀ {xs : List Str}, x ∉ xs → inV (.str x) (xs.map V.str) = false
  | [], _ => rfl
  | y :: xs, h => by
    have e : eqV (.str y) (.str x) = false := beq_eq_false_iff_ne.mpr fun z => h (by rw [z]; exact List.mem_cons_self)
    show (eqV (.str y) (.str x) || inV (.str x) (xs.map V.str)) = false
    rw [e, inV_strs fun z => h (List.mem_cons_of_mem _ z)]
    rfl
theorem inV_in {x : Str} : ∀ {xs : List Str}, x ∈ xs → inV (.str x) (xs.map V.str) = true
  | y :: xs, h => by
    show (eqV (.str y) (.str x) || inV (.str x) (xs.map V.str)) = true
    rcases List.mem_cons.mp h with rfl | h
    · have e : eqV (.str x) (.str x) = true := beq_self_eq_true x
      rw [e]
      rfl
    · rw [inV_in h, Bool.or_true]
theorem sortedS_pw : ∀ {l : List Str}, sortedS l = true → l.Pairwise fun a b => ¬ sLt b a
  | [], _ => .nil
  | [a], _ => by simp
  | a :: b :: r, h => by
    have h' : (!ltCps b.cps.toList a.cps.toList && sortedS (b :: r)) = true := h
    rw [Bool.and_eq_true, Bool.not_eq_true'] at h'
    have ih := sortedS_pw h'.2
    have hab : ¬ sLt b a := fun z => by
      rw [ltCps_eq] at h'
      exact absurd z (of_decide_eq_false h'.1)
    refine List.pairwise_cons.mpr ⟨fun c hc => ?_, ih⟩
    rcases List.mem_cons.mp hc with rfl | hc
    · exact hab
    · exact sLt_trans' hab (List.rel_of_pairwise_cons ih hc)
theorem sorted_eq : ∀ {xs ys : List Str}, sortedS ys = true → ys.Nodup → sortedS xs = true → xs.Nodup → (∀ k, k ∈ ys ↔ k ∈ xs) → ys = xs := fun h1 h2 h3 h4 h5 => go (sortedS_pw h1) h2 (sortedS_pw h3) h4 h5
where go : ∀ {xs ys : List Str}, ys.Pairwise (fun a b => ¬ sLt b a) → ys.Nodup → xs.Pairwise (fun a b => ¬ sLt b a) → xs.Nodup → (∀ k, k ∈ ys ↔ k ∈ xs) → ys = xs
  | [], [], _, _, _, _, _ => rfl
  | x :: xs, [], _, _, _, _, e => absurd ((e x).mpr List.mem_cons_self) List.not_mem_nil
  | [], y :: ys, _, _, _, _, e => absurd ((e y).mp List.mem_cons_self) List.not_mem_nil
  | x :: xs, y :: ys, hy, ny, hx, nx, e => by
    have exy : y = x := by
      rcases List.mem_cons.mp ((e y).mp List.mem_cons_self) with h | h
      · exact h
      rcases List.mem_cons.mp ((e x).mpr List.mem_cons_self) with h' | h'
      · exact h'.symm
      · exact sLt_tri (List.rel_of_pairwise_cons hy h') (List.rel_of_pairwise_cons hx h)
    subst exy
    have n1 := List.nodup_cons.mp ny
    have n2 := List.nodup_cons.mp nx
    rw [go (List.Pairwise.of_cons hy) n1.2 (List.Pairwise.of_cons hx) n2.2 fun k => ⟨fun h => ?_, fun h => ?_⟩]
    · rcases List.mem_cons.mp ((e k).mp (List.mem_cons_of_mem _ h)) with z | z
      · exact (n1.1 (by rw [← z]; exact h)).elim
      · exact z
    · rcases List.mem_cons.mp ((e k).mpr (List.mem_cons_of_mem _ h)) with z | z
      · exact (n2.1 (by rw [← z]; exact h)).elim
      · exact z
theorem sortedS_of : ∀ {l : List Str}, l.Pairwise (fun a b => ¬ sLt b a) → sortedS l = true := fun {l} h => sortedS_of_pairwise l (h.imp fun {a b} q => by
  rw [ltCps_eq]
  exact decide_eq_false q)
/-! ### .. as data -/
def Ascii (x : Str) : Prop := ∀ c ∈ x.cps.toList, c < 0x110000
theorem strOk_of {x : Str} (h : Ascii x) : PyData.strOk x = true := by
  unfold PyData.strOk
  rw [Array.all_eq_true_iff_forall_mem]
  exact fun c hc => decide_eq_true (h c (Array.mem_toList_iff.mpr hc))
theorem NameOk.asc {x : Str} (h : NameOk x) : Ascii x := fun c hc => by
  have := h.2.2 c hc
  omega
theorem canLay_strs : ∀ {xs : List Str}, (∀ x ∈ xs, Ascii x) → PyData.canLayAll0 (xs.map PyData.str) = true
  | [], _ => rfl
  | x :: xs, h => by
    show (PyData.strOk x && PyData.canLayAll0 (xs.map PyData.str)) = true
    rw [strOk_of (h x List.mem_cons_self), canLay_strs fun y hy => h y (List.mem_cons_of_mem _ hy)]
    rfl
theorem depth_strs : ∀ xs : List Str, PyData.depthAll (xs.map PyData.str) = 0
  | [] => rfl
  | x :: xs => by
    show max (PyData.depth (.str x)) (PyData.depthAll (xs.map PyData.str)) = 0
    rw [depth_strs xs]
    rfl
theorem shaped_strs {xs : List Str} (h : ∀ x ∈ xs, Ascii x) : SeqAt.shaped (.list (xs.map .str)) = true := by
  have e : PyData.canLay0 (.list (xs.map .str)) = true := canLay_strs h
  have e2 : PyData.depth (.list (xs.map .str)) = 1 := congrArg (· + 1) (depth_strs xs)
  show (PyData.canLay0 (.list (xs.map .str)) && decide (PyData.depth (.list (xs.map .str)) ≤ 64)) = true
  rw [e, e2]
  rfl
end A8
set_option Elab.async false
set_option linter.all false
set_option maxRecDepth 100000
set_option maxHeartbeats 4000000
namespace A8
open PySem PySem.Spec PyProof.Rows L2 AL
open GxR (TabB TabG Tabbed)
abbrev Row := Str × Addr × List Str
def kvsOf (t : List Row) : List (Key × V) := t.map fun r => (Sum.inr r.1, .ref r.2.1)
def RowsAt (H : Hp) (t : List Row) : Prop := ∀ r ∈ t, H r.2.1 = some (.lst (r.2.2.map V.str))
section
variable {Ps : List Addr} {H H1 : Hp} {d : Addr} {t : List Row}
theorem Ext.rows (a : Ext Ps H H1) (ht : Tabs Ps H) (h : RowsAt H t) : RowsAt H1 t := fun r hr => a.get ht (h r hr) fun _ z => by cases z
theorem Ext.rd (a : Ext Ps H H1) (ht : Tabs Ps H) {u : HO} (h : Rd H d u) (n : ∀ ps, u ≠ .tbl ps) : Rd H1 d u := by
  rcases h with h | ⟨o, h⟩
  · exact .inl (a.get ht h n)
  · exact .inr ⟨o, a.get ht h fun _ z => by cases z⟩
theorem valV_row : ∀ {t : List Row} {r : Row}, r ∈ t → (t.map (·.1)).Nodup → valV (kvsOf t) (Sum.inr r.1) = some (.ref r.2.1)
  | a :: t, r, h, nd => by
    rw [List.map_cons, List.nodup_cons] at nd
    rcases List.mem_cons.mp h with rfl | h
    · exact valV_pos rfl
    · have ne : ¬ (Sum.inr a.1 : Key) = Sum.inr r.1 := fun z => nd.1 (by
        injection z with z
        rw [z]
        exact List.mem_map.mpr ⟨r, h, rfl⟩)
      exact (valV_neg (p := (Sum.inr a.1, V.ref a.2.1)) ne).trans (valV_row h nd.2)
end
section
variable {t : List Row}
theorem kvsOf_len : (kvsOf t).length = t.length := List.length_map _
theorem kvsOf_at {i : Nat} {k : Key} {v : V} (h : (kvsOf t)[i]? = some (k, v)) : ∃ r, t[i]? = some r ∧ r ∈ t ∧ k = Sum.inr r.1 ∧ v = .ref r.2.1 := by
  unfold kvsOf at h
  rw [List.getElem?_map] at h
  cases q : t[i]? with
  | none => rw [q] at h; cases h
  | some r =>
    rw [q] at h
    injection h with h
    injection h with h1 h2
    exact ⟨r, rfl, List.mem_of_getElem? q, h1.symm, h2.symm⟩
end
theorem dpAll_strs {K : PySem.W.Frag} {H : Hp} : ∀ xs : List Str, DpAll K H (xs.map V.str) (xs.map PyData.str)
  | [] => .nil
  | x :: xs => .cons (.str x) (dpAll_strs xs)
theorem eqvAll_strs : ∀ xs : List Str, PyData.eqvAll (xs.map PyData.str) (xs.map PyData.str) = true
  | [] => rfl
  | x :: xs => by
    have e : PyData.eqv (.str x) (.str x) = true := beq_self_eq_true x
    show (PyData.eqv (.str x) (.str x) && PyData.eqvAll (xs.map PyData.str) (xs.map PyData.str)) = true
    rw [e, eqvAll_strs xs]
    rfl
section
variable {Ps : List Addr} {H H1 : Hp} {d : Addr} {u : HO} {o : Obj}
theorem Ext.unlock (hd : H d = some u) (n : ∀ ps, u ≠ .tbl ps) (e : Ext Ps (upd H d (.frz o u)) H1) : Ext Ps H (upd H1 d u) where
  kp := fun b v h z => by
    by_cases q : b = d
    · rw [q] at h ⊢
      rw [upd_same, ← h, hd]
    · rw [upd_ne q]
      exact e.kp b v (by rw [upd_ne q]; exact h) z
  tb := fun p hp h => by
    obtain ⟨ps, e1, e2⟩ := h
    have q : p ≠ d := fun q => by
      rw [q, hd] at e1
      exact n ps (Option.some.inj e1)
    obtain ⟨ps', e3, e4⟩ := e.tb p hp ⟨ps, by rw [upd_ne q]; exact e1, e2⟩
    exact ⟨ps', by rw [upd_ne q]; exact e3, e4⟩
theorem Ext.lockd (ht : Tabs Ps H) (hd : H d = some u) (n : ∀ ps, u ≠ .tbl ps) (e : Ext Ps (upd H d (.frz o u)) H1) : H1 d = some (.frz o u) :=
  e.kp d _ upd_same (notPs' ht hd n)
theorem Ext.same (h : Same H H1) : Ext Ps H H1 := ⟨fun b o e _ => h b o e, fun p _ ⟨ps, e, t⟩ => ⟨ps, h _ _ e, t⟩⟩
end
theorem Ext.lk {Ps : List Addr} {d : Addr} {u : HO} {od : Obj} {H H0 H1 : Hp} {bk : Hp → Hp} (L : Lk d u od H H0 bk) (ht : Tabs Ps H) (hd : Rd H d u) (n : ∀ ps, u ≠ .tbl ps) (e : Ext Ps H0 H1) : Ext Ps H (bk H1) := by
  have dP : d ∉ Ps := fun hp => by
    obtain ⟨ps, e, _⟩ := ht d hp
    rcases hd with h | ⟨o, h⟩
    · rw [h] at e
      exact n ps (Option.some.inj e)
    · rw [h] at e
      cases e
  have h1 : H1 d = some (.frz od u) := e.kp d _ L.f dP
  refine ⟨fun b v h z => ?_, fun p hp h => ?_⟩
  · by_cases q : b = d
    · rw [q] at h ⊢
      rw [L.b1 h1]
      exact h
    · rw [L.b2 q]
      exact e.kp b v (by rw [L.o q]; exact h) z
  · obtain ⟨ps, e1, e2⟩ := h
    have q : p ≠ d := fun q => dP (q ▸ hp)
    obtain ⟨ps', e3, e4⟩ := e.tb p hp ⟨ps, by rw [L.o q]; exact e1, e2⟩
    exact ⟨ps', by rw [L.b2 q]; exact e3, e4⟩
theorem Tabs.lk {Ps : List Addr} {d : Addr} {u : HO} {od : Obj} {H H0 : Hp} {bk : Hp → Hp} (L : Lk d u od H H0 bk) (ht : Tabs Ps H) (hd : Rd H d u) (n : ∀ ps, u ≠ .tbl ps) : Tabs Ps H0 := fun p hp => by
  obtain ⟨ps, e1, e2⟩ := ht p hp
  have q : p ≠ d := fun z => by
    rw [z] at e1
    rcases hd with h | ⟨o, h⟩
    · rw [h] at e1
      exact n ps (Option.some.inj e1)
    · rw [h] at e1
      cases e1
  exact ⟨ps, by rw [L.o q]; exact e1, e2⟩
theorem Ext.rdL {Ps : List Addr} {d : Addr} {u : HO} {H H1 : Hp} (e : Ext Ps H H1) (t : Tabs Ps H) (n : ∀ ps, u ≠ .tbl ps) (h : Rd H d u) : Rd H1 d u :=
  h.elim (fun h => .inl (e.get t h n)) fun ⟨o, h⟩ => .inr ⟨o, e.get t h fun _ z => HO.noConfusion z⟩
theorem nTb {kvs : List (Key × V)} : ∀ ps, HO.dK kvs ≠ .tbl ps := fun _ z => by cases z
theorem quant_keys {K : PySem.W.Frag} {Ps : List Addr} {p1 d : Addr} {kvs : List (Key × V)} {g : TG} {te : TE} {vs : List Nat} {σ : L2.St} {H : Hp} {Q : VK} (hp : p1 ∈ Ps) (hd : Rd H d (.dK kvs)) (h0 : σ[0]? = some (some (.ref d))) (ht : Tabs Ps H)
    (hs : ∀ (od : Obj) (H0 : Hp) (bk : Hp → Hp), Lk d (.dK kvs) od H H0 bk → Tabs Ps H0 → ∀ (i : Nat) (k : Key) (v : V) (H1 : Hp) (Nx : VK), kvs[i]? = some (k, v) → Ext Ps H0 H1 → (∀ H3, Ext Ps H0 H3 → Nx (.bl true) H3) →
      g (kV k) (wipe σ vs) H1 fun σ2 H2 => wipe σ2 vs = wipe σ vs ∧ te σ2 H2 Nx)
    (hQ : ∀ H', Ext Ps H H' → Q (.bl true) H') : tMayE (tQuant K p1 false (iKeys (tVar 0)) g te vs) σ H Q := by
  refine may_of hd trivial fun od H0 bk L => ?_
  have t0 : Tabs Ps H0 := Tabs.lk L ht hd nTb
  have lk : ∀ {H'}, Ext Ps H0 H' → H' d = some (.frz od (.dK kvs)) := fun e => e.get t0 L.f fun _ z => by cases z
  refine ⟨_, h0, d, od, rfl, .inl ⟨kvs, L.f, t0 _ hp, fun H2 hT => ?_⟩⟩
  exact all_keys (fun H' => Ext Ps H0 H') (Ext.tabbed hp hT) (fun H' e => lk e) (fun i k v H1 Nx hk e hN => hs od H0 bk L t0 i k v H1 Nx hk e hN)
    fun H' e => ⟨lk e, hQ _ (e.lk L ht hd nTb)⟩
theorem tyDict {K : PySem.W.Frag} {H : Hp} {d : Addr} {kvs : List (Key × V)} (h : Rd H d (.dK kvs)) : TyX K H (.ref d) (.type "dict") := h.elim (fun h => .base (.dK h)) fun ⟨_, h⟩ => .fDict h
theorem snew {G : Hp} {x : Addr} {o : HO} (h : G x = none) : Same G (upd G x o) := fun b u e => by
  rw [upd_ne (ne_of_none e h)]
  exact e
theorem at_lt {α : Type} {l : List α} {i : Nat} {a : α} (h : l[i]? = some a) : i < l.length := (List.getElem?_eq_some_iff.mp h).1
theorem mergeK_rows : ∀ {t u : List Row}, ((u ++ t).map (·.1)).Nodup → mergeK (kvsOf u) (kvsOf t) = kvsOf (u ++ t)
  | [], u, _ => by rw [List.append_nil]; rfl
  | r :: t, u, nd => by
    have hn : valV (kvsOf u) (Sum.inr r.1) = none := by
      cases q : valV (kvsOf u) (Sum.inr r.1) with
      | none => rfl
      | some v =>
        have hm : (Sum.inr r.1 : Key) ∈ (kvsOf u).map (·.1) := valV_in q
        rw [kvsOf, List.map_map] at hm
        obtain ⟨s, hs, e⟩ := List.mem_map.mp hm
        rw [List.map_append, List.nodup_append] at nd
        exact (nd.2.2 s.1 (List.mem_map.mpr ⟨s, hs, rfl⟩) r.1 List.mem_cons_self (Sum.inr.inj e)).elim
    have e1 : putK (kvsOf u) (Sum.inr r.1) (.ref r.2.1) = kvsOf (u ++ [r]) := by
      rw [putK_new _ hn, kvsOf, kvsOf, List.map_append]
      rfl
    show mergeK (putK (kvsOf u) (Sum.inr r.1) (.ref r.2.1)) (kvsOf t) = _
    rw [e1, mergeK_rows (u := u ++ [r]) (by rw [List.append_assoc]; exact nd), List.append_assoc]
    rfl
theorem mergeK_rows0 {t : List Row} (nd : (t.map (·.1)).Nodup) : mergeK [] (kvsOf t) = kvsOf t := mergeK_rows (u := []) nd
abbrev TupsAt (H : Hp) (tps : List Addr) (t : List Row) : Prop := Paired (fun a (r : Row) => H a = some (.tup [.str r.1, .ref r.2.1])) tps t
theorem TupsAt.keep {H H' : Hp} {ts : List Addr} {rs : List Row} (h : TupsAt H ts rs) (k : ∀ b xs, H b = some (.tup xs) → H' b = some (.tup xs)) : TupsAt H' ts rs := by
  unfold TupsAt at h ⊢
  induction h with
  | nil => exact .nil
  | cons h _ ih => exact .cons (k _ _ h) ih
theorem TupsAt.snoc {H : Hp} {ts : List Addr} {rs : List Row} {a : Addr} {r : Row} (h : TupsAt H ts rs) (e : H a = some (.tup [.str r.1, .ref r.2.1])) : TupsAt H (ts ++ [a]) (rs ++ [r]) := by
  unfold TupsAt at h ⊢
  induction h with
  | nil => exact .cons e .nil
  | cons h _ ih => exact .cons h ih
theorem TupsAt.len {H : Hp} {ts : List Addr} {rs : List Row} (h : TupsAt H ts rs) : ts.length = rs.length := by
  unfold TupsAt at h
  induction h with
  | nil => rfl
  | cons _ _ ih => rw [List.length_cons, List.length_cons, ih]
theorem TupsAt.pairs {K : PySem.W.Frag} {H : Hp} {ts : List Addr} {rs : List Row} (h : TupsAt H ts rs) : Paired (fun (p : Addr) (kv : Key × V) => SqT K H p [kV kv.1, kv.2]) ts (kvsOf rs) := by
  unfold TupsAt at h
  induction h with
  | nil => exact .nil
  | cons h _ ih => exact .cons (.inl (.inl h)) ih
theorem kvs_none {zs : List Row} {x : Str} (h : x ∉ zs.map (·.1)) : valV (kvsOf zs) (Sum.inr x) = none := by
  cases q : valV (kvsOf zs) (Sum.inr x) with
  | none => rfl
  | some v =>
    have hm : (Sum.inr x : Key) ∈ (kvsOf zs).map (·.1) := valV_in q
    rw [kvsOf, List.map_map] at hm
    obtain ⟨s, hs, e⟩ := List.mem_map.mp hm
    exact (h (List.mem_map.mpr ⟨s, hs, Sum.inr.inj e⟩)).elim
/-- the row of x gets a new list -/
def setRow (zs : List Row) (x : Str) (S : Addr) (ws : List Str) : List Row := zs.map fun r => if r.1 = x then (x, S, ws) else r
theorem atI_of {α : Type} {xs : List α} {j : Int} (j0 : 0 ≤ j) (j1 : j < xs.length) : ∃ v, atI xs j = some v ∧ v ∈ xs := by
  obtain ⟨n, rfl⟩ : ∃ n : Nat, j = n := ⟨j.toNat, (Int.toNat_of_nonneg j0).symm⟩
  have hn : n < xs.length := by omega
  exact ⟨xs[n], atI_nat (List.getElem?_eq_getElem hn), List.getElem_mem hn⟩
theorem atI_str {xs : List Str} {j : Int} (j0 : 0 ≤ j) (j1 : j < xs.length) : ∃ y, atI (xs.map V.str) j = some (.str y) ∧ y ∈ xs := by
  obtain ⟨v, hv, hm⟩ := atI_of (xs := xs.map V.str) j0 (by rw [List.length_map]; exact j1)
  obtain ⟨y, hy, rfl⟩ := List.mem_map.mp hm
  exact ⟨y, hv, hy⟩
structure Sm (d : PyData) (k w : Nat) : Prop where
  sh : d.showable = true
  dp : d.depth ≤ k
  le : d.leavesShort 13 = true
  we : d.weight ≤ w
theorem Sm.mono {d : PyData} {k w k' w' : Nat} (h : Sm d k w) (hk : k ≤ k') (hw : w ≤ w') : Sm d k' w' := ⟨h.sh, Nat.le_trans h.dp hk, h.le, Nat.le_trans h.we hw⟩
theorem Sm.str {x : Str} (h : NameOk x) : Sm (.str x) 0 8 := ⟨rfl, Nat.le_refl _, List.all_eq_true.mpr fun c hc => decide_eq_true (by have := (h.2.2 c hc).2; omega), h.2.1⟩
structure SmAll (ds : List PyData) (k w : Nat) : Prop where
  sh : PyData.showableAll ds = true
  dp : PyData.depthAll ds ≤ k
  le : PyData.leavesShortAll 13 ds = true
  we : PyData.weightAll ds ≤ (w + 1) * ds.length
theorem SmAll.of : ∀ {ds : List PyData} {k w : Nat}, (∀ d ∈ ds, Sm d k w) → SmAll ds k w
  | [], k, w, _ => ⟨rfl, Nat.zero_le _, rfl, Nat.zero_le _⟩
  | d :: ds, k, w, h => by
    have a := h d List.mem_cons_self
    have b := SmAll.of fun e he => h e (List.mem_cons_of_mem _ he)
    refine ⟨?_, ?_, ?_, ?_⟩
    · show (d.showable && PyData.showableAll ds) = true
      rw [a.sh, b.sh]; rfl
    · show max d.depth (PyData.depthAll ds) ≤ k
      exact Nat.max_le.mpr ⟨a.dp, b.dp⟩
    · show (d.leavesShort 13 && PyData.leavesShortAll 13 ds) = true
      rw [a.le, b.le]; rfl
    · show d.weight + 1 + PyData.weightAll ds ≤ (w + 1) * (ds.length + 1)
      have := a.we
      have := b.we
      rw [Nat.mul_add]
      omega
theorem SmAll.list {ds : List PyData} {k w : Nat} (h : SmAll ds k w) : Sm (.list ds) (k + 1) ((w + 1) * ds.length) := ⟨h.sh, Nat.succ_le_succ h.dp, h.le, h.we⟩
theorem smKv : ∀ {kvs : List (PyData × PyData)} {k w v : Nat}, (∀ q ∈ kvs, Sm q.1 k w ∧ Sm q.2 k v) → PyData.showableKv kvs = true ∧ PyData.depthKv kvs ≤ k ∧ PyData.leavesShortKv 13 kvs = true ∧ PyData.weightKv kvs ≤ (w + v + 2) * kvs.length
  | [], k, w, v, _ => ⟨rfl, Nat.zero_le _, rfl, Nat.zero_le _⟩
  | (x, y) :: r, k, w, v, h => by
    obtain ⟨a, b⟩ := h (x, y) List.mem_cons_self
    obtain ⟨c1, c2, c3, c4⟩ := smKv fun e he => h e (List.mem_cons_of_mem _ he)
    have a1 : x.showable = true := a.sh
    have b1 : y.showable = true := b.sh
    have a2 : x.depth ≤ k := a.dp
    have b2 : y.depth ≤ k := b.dp
    have a3 : x.leavesShort 13 = true := a.le
    have b3 : y.leavesShort 13 = true := b.le
    have a4 : x.weight ≤ w := a.we
    have b4 : y.weight ≤ v := b.we
    refine ⟨?_, ?_, ?_, ?_⟩
    · show (x.showable && y.showable && PyData.showableKv r) = true
      rw [a1, b1, c1]; rfl
    · show max (max x.depth y.depth) (PyData.depthKv r) ≤ k
      exact Nat.max_le.mpr ⟨Nat.max_le.mpr ⟨a2, b2⟩, c2⟩
    · show (x.leavesShort 13 && y.leavesShort 13 && PyData.leavesShortKv 13 r) = true
      rw [a3, b3, c3]; rfl
    · show x.weight + y.weight + 2 + PyData.weightKv r ≤ (w + v + 2) * (r.length + 1)
      rw [Nat.mul_add]
      omega
theorem Sm.dict {kvs : List (PyData × PyData)} {k w v : Nat} (h : ∀ q ∈ kvs, Sm q.1 k w ∧ Sm q.2 k v) : Sm (.dict kvs) (k + 1) ((w + v + 2) * kvs.length) := by
  obtain ⟨c1, c2, c3, c4⟩ := smKv h
  exact ⟨c1, Nat.succ_le_succ c2, c3, c4⟩
theorem Sm.fits {d : PyData} {k w : Nat} (h : Sm d k w) (hw : w ≤ 1048576) : d.shown.length ≤ sizeLine := PyData.shown_fits (by decide) (by decide) h.le (Nat.le_trans h.we (by omega))
def lnD (ln : List Str) : PyData := .list (ln.map .str)
def trD (t : List Row) : PyData := .dict (t.map fun r => (.str r.1, .list (r.2.2.map .str)))
theorem sm_names {xs : List Str} (h : ∀ x ∈ xs, NameOk x) : SmAll (xs.map PyData.str) 0 8 := .of fun d hd => by
  obtain ⟨x, hx, rfl⟩ := List.mem_map.mp hd
  exact .str (h x hx)
theorem sm_lst {ln : List Str} {m : Nat} (h : ∀ y ∈ ln, NameOk y) (l : ln.length ≤ m) : Sm (lnD ln) 1 (9 * m) := by
  have q := (sm_names h).list
  refine q.mono (Nat.le_refl _) ?_
  rw [List.length_map]
  exact Nat.mul_le_mul_left 9 l
theorem sm_rows {t : List Row} {m : Nat} (n40 : t.length ≤ 40) (hn : ∀ r ∈ t, NameOk r.1) (he : ∀ r ∈ t, ∀ y ∈ r.2.2, NameOk y) (l : ∀ r ∈ t, r.2.2.length ≤ m) (m4 : m ≤ 500) : Sm (trD t) 2 200000 := by
  have h := Sm.dict (kvs := t.map fun r => (PyData.str r.1, PyData.list (r.2.2.map .str))) (k := 1) (w := 8) (v := 9 * m) fun q hq => by
    obtain ⟨r, hr, rfl⟩ := List.mem_map.mp hq
    exact ⟨(Sm.str (hn r hr)).mono (Nat.zero_le _) (Nat.le_refl _), sm_lst (he r hr) (l r hr)⟩
  refine h.mono (Nat.le_refl _) ?_
  rw [List.length_map]
  have : (8 + 9 * m + 2) * t.length ≤ (8 + 9 * 500 + 2) * 40 := Nat.mul_le_mul (by omega) n40
  omega
section
variable {H : Hp}
theorem dat_line {l : Addr} {ln : List Str} (h : H l = some (.lst (ln.map V.str))) : Dat H (.ref l) (lnD ln) := .lst (.inl h) (Dats.strs ln)
theorem dat_tree {d : Addr} {t : List Row} (h : H d = some (.dK (kvsOf t))) (hR : RowsAt H t) : Dat H (.ref d) (trD t) := by
  have ds : Dats H ((kvsOf t).map (·.2)) (t.map fun r => PyData.list (r.2.2.map .str)) := by
    rw [kvsOf, List.map_map]
    exact Dats.of _ _ t fun r hr => .lst (.inl (hR r hr)) (Dats.strs _)
  have e : ((kvsOf t).map fun q => keyD q.1).zip (t.map fun r => PyData.list (r.2.2.map .str)) = t.map fun r => (PyData.str r.1, PyData.list (r.2.2.map .str)) := by
    rw [kvsOf, List.map_map, List.zip_map']
    rfl
  have := Dat.dic (.inl h) ds
  rw [e] at this
  exact this
end
theorem Ext.sys {Ps : List Addr} {H H' : Hp} (e : Ext Ps H H') (t : Tabs Ps H) (h : SysOk H) : SysOk H' := by
  obtain ⟨o, φ, h⟩ := h
  exact ⟨o, φ, e.get t h fun _ z => by cases z⟩
theorem Ext.none {Ps : List Addr} {H H1 : Hp} (e : Ext Ps H H1) {q : Addr} (h : H1 q = Option.none) (ht : Tabs Ps H) : H q = Option.none := by
  cases z : H q with
  | none => rfl
  | some o =>
    by_cases m : q ∈ Ps
    · obtain ⟨ps, e1, _⟩ := e.tabs ht q m
      rw [h] at e1
      cases e1
    · have := e.kp q o z m
      rw [h] at this
      cases this
theorem kvsOf_val {lt : List Row} (nd : (lt.map (·.1)).Nodup) {e : Row} (he : e ∈ lt) : valV (kvsOf lt) (Sum.inr e.1) = some (.ref e.2.1) := by
  induction lt with
  | nil => cases he
  | cons a r ih =>
    rw [List.map_cons] at nd
    have n2 := List.nodup_cons.mp nd
    rcases List.mem_cons.mp he with z | z
    · rw [z]
      exact valV_pos (p := ((Sum.inr a.1 : Key), V.ref a.2.1)) rfl
    · have ne : (Sum.inr a.1 : Key) ≠ Sum.inr e.1 := fun q => n2.1 (by
        injection q with q
        rw [q]
        exact List.mem_map.mpr ⟨e, z, rfl⟩)
      exact (valV_neg (p := ((Sum.inr a.1 : Key), V.ref a.2.1)) ne).trans (ih n2.2 z)
def rLenQ (K : PySem.W.Frag) : List V → Hp → VK → Prop := fun xs H Q => ∃ p ys, xs = [V.ref p] ∧ (SqL K H p ys ∨ SqT K H p ys) ∧ Q (V.int ys.length) H
/-- sep.join(xs) as a step -/
def rJoin (K : PySem.W.Frag) : V → List V → Hp → VK → Prop := fun x xs H Q => ∃ a p, ∃ ys : List Str, x = .str a ∧ xs = [.ref p] ∧ (SqL K H p (ys.map V.str) ∨ SqT K H p (ys.map V.str)) ∧ (ys.map (·.length)).sum + ys.length * a.length ≤ 16777216 ∧ Q (.str (Txt.join a ys)) H
end A8
set_option Elab.async false
set_option linter.all false
set_option maxRecDepth 100000
set_option maxHeartbeats 4000000
namespace A8
open PySem PySem.Spec PyProof.Rows L2 AL
/-! ### texts put together and taken apart -/
theorem at_sep {c : Nat} : ∀ {a b s t : List Nat}, c ∉ a → c ∉ b → a ++ c :: s = b ++ c :: t → a = b ∧ s = t
  | [], [], s, t, _, _, h => ⟨rfl, (List.cons.inj h).2⟩
  | [], y :: b, s, t, _, hb, h => absurd (show c ∈ y :: b by rw [(List.cons.inj h).1]; exact List.mem_cons_self) hb
  | x :: a, [], s, t, ha, _, h => absurd (show c ∈ x :: a by rw [← (List.cons.inj h).1]; exact List.mem_cons_self) ha
  | x :: a, y :: b, s, t, ha, hb, h => by
    obtain ⟨e, r⟩ := List.cons.inj h
    obtain ⟨e2, r2⟩ := at_sep (fun z => ha (List.mem_cons_of_mem _ z)) (fun z => hb (List.mem_cons_of_mem _ z)) r
    exact ⟨by rw [e, e2], r2⟩
theorem cps_app (a b : Str) : (a ++ b).cps.toList = a.cps.toList ++ b.cps.toList := by
  show (a.cps ++ b.cps).toList = _
  exact Array.toList_append
theorem str_eq {a b : Str} (h : a.cps.toList = b.cps.toList) : a = b := str_ext h
theorem join_cons (c : Nat) (x y : Str) (r : List Str) : (Str.join ⟨#[c]⟩ (x :: y :: r)).cps.toList = x.cps.toList ++ c :: (Str.join ⟨#[c]⟩ (y :: r)).cps.toList := by
  show (x ++ (⟨#[c]⟩ : Str) ++ Str.join ⟨#[c]⟩ (y :: r)).cps.toList = _
  rw [cps_app, cps_app, List.append_assoc]
  rfl
theorem join_inj (c : Nat) : ∀ {ys zs : List Str}, ys ≠ [] → zs ≠ [] → (∀ y ∈ ys, c ∉ y.cps.toList) → (∀ y ∈ zs, c ∉ y.cps.toList) → Str.join ⟨#[c]⟩ ys = Str.join ⟨#[c]⟩ zs → ys = zs
  | [], _, h, _, _, _, _ => absurd rfl h
  | _, [], _, h, _, _, _ => absurd rfl h
  | [y], [z], _, _, _, _, h => by
    have h : y = z := h
    rw [h]
  | [y], z :: z' :: r, _, _, hy, _, h => by
    have h2 : y.cps.toList = _ := congrArg (fun s : Str => s.cps.toList) h
    have h2 : y.cps.toList = (Str.join ⟨#[c]⟩ (z :: z' :: r)).cps.toList := h2
    rw [join_cons] at h2
    exact absurd (by rw [h2]; exact List.mem_append_right _ List.mem_cons_self) (hy y List.mem_cons_self)
  | y :: y' :: r, [z], _, _, _, hz, h => by
    have h2 := congrArg (fun s : Str => s.cps.toList) h
    have h2 : (Str.join ⟨#[c]⟩ (y :: y' :: r)).cps.toList = z.cps.toList := h2
    rw [join_cons] at h2
    exact absurd (by rw [← h2]; exact List.mem_append_right _ List.mem_cons_self) (hz z List.mem_cons_self)
  | y :: y' :: r, z :: z' :: s, _, _, hy, hz, h => by
    have h2 := congrArg (fun s : Str => s.cps.toList) h
    have h2 : (Str.join ⟨#[c]⟩ (y :: y' :: r)).cps.toList = (Str.join ⟨#[c]⟩ (z :: z' :: s)).cps.toList := h2
    rw [join_cons, join_cons] at h2
    obtain ⟨e, e2⟩ := at_sep (hy y List.mem_cons_self) (hz z List.mem_cons_self) h2
    have := join_inj c (ys := y' :: r) (zs := z' :: s) (by simp) (by simp) (fun a ha => hy a (List.mem_cons_of_mem _ ha)) (fun a ha => hz a (List.mem_cons_of_mem _ ha)) (str_eq e2)
    rw [str_eq e, this]
theorem split_join {c : Nat} {ys : List Str} (ne : ys ≠ []) (free : ∀ y ∈ ys, c ∉ y.cps.toList) : Txt.split (Txt.join ⟨#[c]⟩ ys) ⟨#[c]⟩ = ys := by
  rw [TL.join_eq]
  refine join_inj c (fun z => ?_) ne (StrLaws.split_free _ c) free (StrLaws.join_split _ _)
  have := PyProof.Rows.split_pos (Str.join ⟨#[c]⟩ ys) ⟨#[c]⟩
  rw [z] at this
  exact absurd this (by decide)
theorem name_free {x : Str} {c : Nat} (h : NameOk x) (hc : c < 97) : c ∉ x.cps.toList := fun z => by
  have := (h.2.2 c z).1
  omega
theorem join_mem {c d : Nat} : ∀ {ys : List Str}, d ∈ (Str.join ⟨#[c]⟩ ys).cps.toList → d = c ∨ ∃ y ∈ ys, d ∈ y.cps.toList
  | [], h => absurd h (by show d ∉ ([] : List Nat); exact List.not_mem_nil)
  | [x], h => .inr ⟨x, List.mem_cons_self, h⟩
  | x :: y :: r, h => by
    rw [join_cons] at h
    rcases List.mem_append.mp h with z | z
    · exact .inr ⟨x, List.mem_cons_self, z⟩
    · rcases List.mem_cons.mp z with w | w
      · exact .inl w
      · rcases join_mem w with q | ⟨u, hu, q⟩
        · exact .inl q
        · exact .inr ⟨u, List.mem_cons_of_mem _ hu, q⟩
theorem cps_len (x : Str) : x.length = x.cps.toList.length := by
  show x.cps.size = _
  exact (Array.length_toList).symm
theorem len_app (a b : Str) : (a ++ b).length = a.length + b.length := Str.length_append a b
theorem name_len {x : Str} (h : NameOk x) : x.length ≤ 8 := h.2.1
theorem sum_names {k : Nat} : ∀ {ys : List Str}, (∀ y ∈ ys, y.length ≤ k) → (ys.map (·.length)).sum ≤ k * ys.length
  | [], _ => Nat.zero_le _
  | y :: r, h => by
    have h1 := h y List.mem_cons_self
    have h2 := sum_names (k := k) (ys := r) fun z hz => h z (List.mem_cons_of_mem _ hz)
    rw [List.map_cons, List.sum_cons, List.length_cons, Nat.mul_add]
    omega
theorem join_len {c k : Nat} {ys : List Str} (h : ∀ y ∈ ys, y.length ≤ k) : (Txt.join ⟨#[c]⟩ ys).length ≤ (k + 1) * ys.length := by
  rw [TL.join_eq]
  have h1 := StrLaws.join_length_le ⟨#[c]⟩ ys
  have h2 := sum_names h
  have h3 : (⟨#[c]⟩ : Str).length = 1 := rfl
  rw [h3, Nat.mul_one] at h1
  rw [Nat.add_mul]
  omega
/-! ### a row of logs -/
def rowT (y : Str) (lg : List Str) : Str := Txt.join " " ((y ++ ":") :: lg)
/-- the log of a node -/
def lgOf (lt : List Row) (x : Str) : List Str := match lt.find? (fun r => decide (r.1 = x)) with
  | some r => r.2.2
  | none => []
def logsT (lt : List Row) (ys : List Str) : Str := Txt.join "\n" (ys.map fun y => rowT y (lgOf lt y))
theorem lgOf_at {lt : List Row} (nd : (lt.map (·.1)).Nodup) {e : Row} (he : e ∈ lt) : lgOf lt e.1 = e.2.2 := by
  unfold lgOf
  cases q : lt.find? (fun r => decide (r.1 = e.1)) with
  | none =>
    have := List.find?_eq_none.mp q e he
    simp at this
  | some r =>
    have hr := List.mem_of_find?_eq_some q
    have er : r.1 = e.1 := by simpa using List.find?_some q
    have : r = e := by
      obtain ⟨i, hi, ei⟩ := List.mem_iff_getElem.mp hr
      obtain ⟨j, hj, ej⟩ := List.mem_iff_getElem.mp he
      have e1 : (lt.map (·.1))[i]'(by rw [List.length_map]; exact hi) = (lt.map (·.1))[j]'(by rw [List.length_map]; exact hj) := by
        rw [List.getElem_map, List.getElem_map, ei, ej, er]
      have ij : i = j := (List.getElem_inj nd).mp e1
      subst ij
      rw [← ei, ← ej]
    rw [this]
/-- named logs -/
structure Named (lt : List Row) : Prop where
  n1 : 1 ≤ lt.length
  n40 : lt.length ≤ 40
  nd : (lt.map (·.1)).Nodup
  names : ∀ r ∈ lt, NameOk r.1
  ents : ∀ r ∈ lt, ∀ y ∈ r.2.2, NameOk y
  l400 : ∀ r ∈ lt, r.2.2.length ≤ 400
theorem Named.of {lt : List Row} (n : Named lt) {ys : List Str} (pm : ys.Perm (lt.map (·.1))) {y : Str} (hy : y ∈ ys) : ∃ r ∈ lt, r.1 = y ∧ lgOf lt y = r.2.2 := by
  obtain ⟨r, hr, er⟩ := List.mem_map.mp (pm.subset hy)
  have er : r.1 = y := er
  exact ⟨r, hr, er, by rw [← er]; exact lgOf_at n.nd hr⟩
theorem colon_free {y : Str} (h : NameOk y) {c : Nat} (hc : c < 58) : c ∉ (y ++ ":" : Str).cps.toList := fun z => by
  rw [cps_app] at z
  rcases List.mem_append.mp z with w | w
  · exact name_free h (by omega) w
  · have : c = 58 := List.mem_singleton.mp (show c ∈ [58] from w)
    omega
theorem sp_eq : (" " : Str) = ⟨#[32]⟩ := by decide +kernel
theorem nl_eq : ("\n" : Str) = ⟨#[10]⟩ := by decide +kernel
theorem row_split {y : Str} {lg : List Str} (h : NameOk y) (hl : ∀ z ∈ lg, NameOk z) : Txt.split (rowT y lg) " " = (y ++ ":") :: lg := by
  unfold rowT
  rw [sp_eq]
  refine split_join (by simp) fun z hz => ?_
  rcases List.mem_cons.mp hz with w | w
  · rw [w]
    exact colon_free h (by decide)
  · exact name_free (hl z w) (by decide)
theorem row_free {y : Str} {lg : List Str} (h : NameOk y) (hl : ∀ z ∈ lg, NameOk z) : 10 ∉ (rowT y lg).cps.toList := fun z => by
  unfold rowT at z
  rw [TL.join_eq, sp_eq] at z
  rcases join_mem z with w | ⟨u, hu, w⟩
  · exact absurd w (by decide)
  · rcases List.mem_cons.mp hu with q | q
    · rw [q] at w
      exact colon_free h (by decide) w
    · exact name_free (hl u q) (by decide) w
theorem logs_split {lt : List Row} (n : Named lt) {ys : List Str} (pm : ys.Perm (lt.map (·.1))) : Txt.split (logsT lt ys) "\n" = ys.map fun y => rowT y (lgOf lt y) := by
  unfold logsT
  rw [nl_eq]
  refine split_join (fun z => ?_) fun z hz => ?_
  · have e := congrArg List.length z
    have e2 := pm.length_eq
    have e3 := n.n1
    rw [List.length_map] at e e2
    rw [e2] at e
    simp at e
    rw [e] at e3
    exact absurd e3 (by decide)
  · obtain ⟨y, hy, rfl⟩ := List.mem_map.mp hz
    obtain ⟨r, hr, er, el⟩ := n.of pm hy
    rw [el, ← er]
    exact row_free (n.names r hr) (n.ents r hr)
theorem row_len {y : Str} {lg : List Str} (h : NameOk y) (hl : ∀ z ∈ lg, NameOk z) (l : lg.length ≤ 400) : (rowT y lg).length ≤ 10 * 401 := by
  unfold rowT
  rw [sp_eq]
  refine Nat.le_trans (join_len (k := 9) fun z hz => ?_) ?_
  · rcases List.mem_cons.mp hz with w | w
    · rw [w, len_app]
      have := name_len h
      have : (":" : Str).length = 1 := by decide +kernel
      omega
    · have := name_len (hl z w)
      omega
  · rw [List.length_cons]
    omega
theorem rows_len {lt : List Row} (n : Named lt) {ys : List Str} (pm : ys.Perm (lt.map (·.1))) : ∀ y ∈ ys, (rowT y (lgOf lt y)).length ≤ 4010 := fun y hy => by
  obtain ⟨r, hr, er, el⟩ := n.of pm hy
  rw [el, ← er]
  exact row_len (n.names r hr) (n.ents r hr) (n.l400 r hr)
theorem logs_len {lt : List Row} (n : Named lt) {ys : List Str} (pm : ys.Perm (lt.map (·.1))) : (logsT lt ys).length ≤ 170000 := by
  unfold logsT
  rw [nl_eq]
  refine Nat.le_trans (join_len (k := 4010) fun z hz => ?_) ?_
  · obtain ⟨y, hy, rfl⟩ := List.mem_map.mp hz
    exact rows_len n pm y hy
  · have e2 := pm.length_eq
    have e3 := n.n40
    rw [List.length_map] at e2 ⊢
    omega
theorem cut_colon (y : Str) : cutS (y ++ ":") none (some (-1)) = y := by
  have l : (y ++ ":" : Str).length = y.length + 1 := len_app _ _
  have e1 : HT.sIx (y ++ ":" : Str).length (y ++ ":" : Str).length (some (-1)) = y.length := by
    show (if (-1 : Int) < 0 then ((-1 : Int) + ((y ++ ":" : Str).length : Int)).toNat else min (-1 : Int).toNat (y ++ ":" : Str).length) = y.length
    rw [if_pos (by decide), l]
    omega
  refine str_eq ?_
  unfold cutS
  rw [e1, HT.sIx_none, Nat.sub_zero, List.drop_zero]
  show List.take y.length (y ++ ":" : Str).cps.toList = _
  rw [cps_app, cps_len]
  exact List.take_left
theorem cut_tail (xs : List V) (x : V) : cutV (x :: xs) (some 1) none = xs := by
  unfold cutV
  have e1 : HT.sIx (x :: xs).length 0 (some 1) = 1 := by
    show (if (1 : Int) < 0 then ((1 : Int) + ((x :: xs).length : Int)).toNat else min (1 : Int).toNat (x :: xs).length) = 1
    rw [if_neg (by decide), List.length_cons]
    show min 1 (xs.length + 1) = 1
    omega
  rw [e1, HT.sIx_none]
  show List.take (xs.length + 1 - 1) (List.drop 1 (x :: xs)) = xs
  rw [List.drop_one, List.tail_cons, Nat.add_sub_cancel]
  exact List.take_of_length_le (Nat.le_refl _)
end A8
set_option Elab.async false
set_option linter.all false
set_option maxRecDepth 100000
set_option maxHeartbeats 4000000
namespace A8
open PySem PySem.Spec PyProof.Rows L2 AL
open GxR (TabB TabG Tabbed)
/-! ### the law's numbers -/
abbrev sSrc : Stmt := top 20
theorem scSrc : FnScope ["script", "k", "cell"] ["script", "k"] (defScope sSrc) := ⟨rfl, rfl, rfl, by decide +kernel, rfl, by decide +kernel, by decide +kernel⟩
def spSrc (K : PySem.W.Frag) : Sp := fun vs H Q _ => ∃ (a : Addr) (ns : List Int) (k : Nat), vs = [.ref a, .int k] ∧ SqL K H a (ns.map V.int) ∧ k < 100 ∧
  ∀ p x y, H p = none → 0 ≤ x → 0 ≤ y → y < 2 ^ 160 → Q (.ref p) (upd H p (.lst [.int x, .int y, .int 0]))
abbrev sPick : Stmt := top 21
theorem scPick : FnScope ["source", "size", "found", "mixed"] ["source", "size"] (defScope sPick) := ⟨rfl, rfl, rfl, by decide +kernel, rfl, by decide +kernel, by decide +kernel⟩
def PotAt (H : Hp) (p : Addr) (n : Nat) : Prop := ∃ x y z : Int, H p = some (.lst [.int x, .int y, .int z]) ∧ 0 ≤ x ∧ 0 ≤ y ∧ y < 2 ^ 160 ∧ 0 ≤ z ∧ z ≤ n
def spPick : Sp := fun vs H Q _ => ∃ (p : Addr) (m : Int) (n : Nat), vs = [.ref p, .int m] ∧ PotAt H p n ∧ n < 2 ^ 40 ∧ 0 < m ∧ m < 2 ^ 62 ∧
  ∀ H' i, PotAt H' p (n + 1) → (∀ b, b ≠ p → H' b = H b) → 0 ≤ i → i < m → Q (.int i) H'
section
variable {P : Program} {w : World} {K : PySem.W.Frag} {mg : Str → Option Value} {base : Heap} {f c p1 : Addr} {fd : FuncData} {Ps : List Addr}
theorem ok_src (F : FunD K "_law_source" "_law_source" (defArgs sSrc) (defBody sSrc) (defScope sSrc) [] [] f fd) (gL : mg "len" = none) (gM : mg "max" = none) : FnOk P w K mg base CX0 1 f fd ["script", "k"] (spSrc K) := by
  refine F.ok scSrc (fun vs H Q E h => ?_) ?_
  · obtain ⟨a, ns, k, rfl, _⟩ := h
    rfl
  intro cdv A outer s H vs Q E hr h
  refine ⟨_, PSs.nox (pss_cons (ps_set (i := 2) scSrc.nd rfl (Or.inl rfl) pe_int)
    (pss_cons (ps_if (pt_cmpR op_lt (pv 1) (pe_callB call_len_seq rfl gL boot_len (pa_cons (pv 0) pa_nil)) (nomark _)) (pss_one (ps_set (i := 2) scSrc.nd rfl (Or.inl rfl) (pe_ix ix_list (pv 0) (pv 1) (fun _ _ => rfl)))) pss_nil)
    (pss_one (ps_ret (pe_lst (pa_cons (pe_callB (call_max2 rfl) rfl gM (by decide +kernel) (pa_cons pe_int (pa_cons (pe_op op_sub (pv 2) (pe_op op_pow pe_int pe_int)) pa_nil)))
      (pa_cons (pe_op op_add (pe_op op_add (pe_op op_mul (pe_op op_mod (pv 2) (pe_op op_add (pe_op op_pow pe_int pe_int) pe_int)) pe_int) (pe_op op_mul pe_int (pv 1))) pe_int) (pa_cons pe_int pa_nil)))))))), ?_⟩
  obtain ⟨a, ns, k, rfl, hS, hk, hQ⟩ := h
  have hM : (10 : Int) ^ (44 : Int).toNat + 9 = 100000000000000000000000000000000000000000009 := by decide
  refine ⟨_, rfl, _, rfl, a, _, rfl, .inl hS, _, _, rfl, rfl, _, rfl, ite2 (fun hlt => ?_) (fun _ => ?_)⟩
  · have hlt' : k < ns.length := by
      have := of_decide_eq_true hlt
      rw [List.length_map] at this
      omega
    have hv : (ns.map V.int)[k]? = some (.int ns[k]) := by
      rw [List.getElem?_map, List.getElem?_eq_getElem hlt']
      rfl
    refine ⟨_, rfl, _, rfl, a, _, _, _, rfl, rfl, hS, atI_nat hv, ?_⟩
    refine ⟨_, rfl, _, _, rfl, rfl, ⟨by decide, by decide, by decide⟩, _, _, rfl, rfl, _, _, rfl, ?_⟩
    refine ⟨_, rfl, _, _, rfl, rfl, ⟨by decide, by decide, by decide⟩, _, _, rfl, rfl, _, _, rfl, rfl, by show (0 : Int) < _ ; rw [hM]; decide, ?_⟩
    refine ⟨_, _, rfl, rfl, .inr ⟨by decide, by decide⟩, _, rfl, _, _, rfl, rfl, .inl ⟨by decide, by decide⟩, _, _, rfl, rfl, _, _, rfl, rfl, by show 3 ≤ sizeLine; decide, fun p hp => ?_⟩
    refine hQ p _ _ hp ?_ ?_ ?_
    · split <;> omega
    · rw [hM]; omega
    · rw [hM]; omega
  · refine ⟨_, rfl, _, _, rfl, rfl, ⟨by decide, by decide, by decide⟩, _, _, rfl, rfl, _, _, rfl, ?_⟩
    refine ⟨_, rfl, _, _, rfl, rfl, ⟨by decide, by decide, by decide⟩, _, _, rfl, rfl, _, _, rfl, rfl, by show (0 : Int) < _ ; rw [hM]; decide, ?_⟩
    refine ⟨_, _, rfl, rfl, .inr ⟨by decide, by decide⟩, _, rfl, _, _, rfl, rfl, .inl ⟨by decide, by decide⟩, _, _, rfl, rfl, _, _, rfl, rfl, by show 3 ≤ sizeLine; decide, fun p hp => ?_⟩
    refine hQ p _ _ hp ?_ ?_ ?_
    · split <;> omega
    · rw [hM]; omega
    · rw [hM]; omega
theorem ok_pick (F : FunD K "_law_pick" "_law_pick" (defArgs sPick) (defBody sPick) (defScope sPick) [] [] f fd) : FnOk P w K mg base CX0 1 f fd ["source", "size"] spPick := by
  refine F.ok scPick (fun vs H Q E h => ?_) ?_
  · obtain ⟨a, ns, k, rfl, _⟩ := h
    rfl
  intro cdv A outer s H vs Q E hr h
  refine ⟨_, PSs.nox (pss_cons (ps_if (pt_cmpR op_gt (pe_ix ix_list (pv 0) pe_int (fun _ _ => rfl)) pe_int (nomark _))
      (pss_cons (ps_set (i := 2) scPick.nd rfl (Or.inl rfl) (pe_op op_mod (pe_ix ix_list (pv 0) pe_int (fun _ _ => rfl)) (pv 1)))
      (pss_cons (ps_asg (pe_op op_fdivW (pe_ix ix_list (pv 0) pe_int (fun _ _ => rfl)) (pv 1)) (pg_sub (pv 0) pe_int set_list))
      (pss_one (ps_ret (pv 2))))) pss_nil)
    (pss_cons (ps_asg (pe_op op_add (pe_ix ix_list (pv 0) pe_int (fun _ _ => rfl)) pe_int) (pg_sub (pv 0) pe_int set_list))
    (pss_cons (ps_set (i := 3) scPick.nd rfl (Or.inl rfl) (pe_op op_mod (pe_op op_powW (pe_op op_add (pe_ix ix_list (pv 0) pe_int (fun _ _ => rfl)) (pe_op op_mul pe_int (pe_ix ix_list (pv 0) pe_int (fun _ _ => rfl)))) pe_int) (pe_op op_add (pe_op op_pow pe_int pe_int) pe_int)))
    (pss_cons (ps_set (i := 3) scPick.nd rfl (Or.inl rfl) (pe_op op_mod (pe_op op_powW (pe_op op_add (pv 3) (pe_op op_mul pe_int (pe_ix ix_list (pv 0) pe_int (fun _ _ => rfl)))) pe_int) (pe_op op_add (pe_op op_pow pe_int pe_int) pe_int)))
    (pss_one (ps_ret (pe_op op_mod (pe_op op_fdivN (pv 3) pe_int) (pv 1)))))))), ?_⟩
  obtain ⟨p, m, n, rfl, ⟨x, y, z, hp, x0, y0, y1, z0, z1⟩, hn, m0, m1, hQ⟩ := h
  have hA : (10 : Int) ^ (40 : Int).toNat + 121 = 10000000000000000000000000000000000000121 := by decide
  have hB : (10 : Int) ^ (41 : Int).toNat + 37 = 100000000000000000000000000000000000000037 := by decide
  have only : ∀ {H1 : Hp} {o : HO}, (∀ b, b ≠ p → H1 b = H b) → ∀ b, b ≠ p → upd H1 p o b = H b := fun h b hb => by rw [upd_ne hb]; exact h b hb
  refine ⟨_, rfl, p, _, _, _, rfl, rfl, .inl (.inl hp), atI_nat (j := 0) rfl, _, _, rfl, rfl, _, rfl, ite2 (fun hx => ?_) (fun hx => ?_)⟩
  · have hx0 : 0 < x := of_decide_eq_true hx
    refine ⟨_, rfl, p, _, _, _, rfl, rfl, .inl (.inl hp), atI_nat (j := 0) rfl, _, rfl, _, _, rfl, rfl, m0, ?_⟩
    refine ⟨_, rfl, p, _, _, _, rfl, rfl, .inl (.inl hp), atI_nat (j := 0) rfl, _, rfl, _, _, rfl, rfl, wide_div (b := 63) m0 (by omega) (by decide) (by decide), ?_⟩
    refine ⟨_, rfl, p, _, _, 0, rfl, rfl, hp, rfl, ?_⟩
    refine ⟨_, rfl, ?_⟩
    refine hQ _ _ ⟨_, _, _, upd_same, Int.ediv_nonneg x0 (Int.le_of_lt m0), y0, y1, z0, by omega⟩ (only fun _ _ => rfl) (Int.emod_nonneg _ (by omega)) (Int.emod_lt_of_pos _ m0)
  · refine ⟨_, rfl, p, _, _, _, rfl, rfl, .inl (.inl hp), atI_nat (j := 2) rfl, _, _, rfl, rfl, _, rfl, p, _, _, 2, rfl, rfl, hp, rfl, ?_⟩
    have hp1 : upd H p (.lst [.int x, .int y, .int (z + 1)]) p = some (.lst [.int x, .int y, .int (z + 1)]) := upd_same
    obtain ⟨H1, eH⟩ : ∃ H1, H1 = upd H p (.lst [.int x, .int y, .int (z + 1)]) := ⟨_, rfl⟩
    have o1 : ∀ b, b ≠ p → H1 b = H b := by rw [eH]; exact only fun _ _ => rfl
    rw [← eH] at hp1
    rw [← show H1 = upd H p (.lst ([V.int x, V.int y, V.int z].set 2 (V.int (z + 1)))) from eH]
    have b1 : (y + 433494437 * (z + 1)).natAbs < 2 ^ 170 := by omega
    have q1 : ((Builtin.Int.intBits (y + 433494437 * (z + 1)) : Nat) : Int) * 3 ≤ 2 ^ 27 := by
      have := intBits_le b1
      omega
    refine ⟨_, rfl, p, _, _, _, rfl, rfl, .inl (.inl hp1), atI_nat (j := 1) rfl, _, rfl, p, _, _, _, rfl, rfl, .inl (.inl hp1), atI_nat (j := 2) rfl, _, _, rfl, rfl, .inl ⟨by decide, by decide⟩, _, _, rfl, rfl, _, _, rfl, rfl, ⟨by decide, q1⟩,
      _, _, rfl, rfl, ⟨by decide, by decide, by decide⟩, _, _, rfl, rfl, _, _, rfl, rfl, by show (0 : Int) < _; rw [hA]; decide, ?_⟩
    obtain ⟨m1', em⟩ : ∃ v, v = (y + 433494437 * (z + 1)) ^ (3 : Int).toNat % ((10 : Int) ^ (40 : Int).toNat + 121) := ⟨_, rfl⟩
    show gName 3 (V.int ((y + 433494437 * (z + 1)) ^ (3 : Int).toNat % ((10 : Int) ^ (40 : Int).toNat + 121))) _ _ _
    rw [← em]
    have g0 : 0 ≤ m1' := by rw [em]; exact Int.emod_nonneg _ (by rw [hA]; decide)
    have g1 : m1' < 10000000000000000000000000000000000000121 := by
      rw [em, ← hA]
      exact Int.emod_lt_of_pos _ (by rw [hA]; decide)
    have b2 : (m1' + 2971215073 * (z + 1)).natAbs < 2 ^ 140 := by omega
    have q2 : ((Builtin.Int.intBits (m1' + 2971215073 * (z + 1)) : Nat) : Int) * 5 ≤ 2 ^ 27 := by
      have := intBits_le b2
      omega
    refine ⟨_, rfl, _, rfl, p, _, _, _, rfl, rfl, .inl (.inl hp1), atI_nat (j := 2) rfl, _, _, rfl, rfl, .inl ⟨by decide, by decide⟩, _, _, rfl, rfl, _, _, rfl, rfl, ⟨by decide, q2⟩,
      _, _, rfl, rfl, ⟨by decide, by decide, by decide⟩, _, _, rfl, rfl, _, _, rfl, rfl, by show (0 : Int) < _; rw [hB]; decide, ?_⟩
    refine ⟨_, rfl, _, _, rfl, rfl, ⟨by decide, by decide⟩, _, rfl, _, _, rfl, rfl, m0, ?_⟩
    exact hQ _ _ ⟨_, _, _, hp1, x0, y0, y1, by omega, by omega⟩ o1 (Int.emod_nonneg _ (by omega)) (Int.emod_lt_of_pos _ m0)
end
end A8
set_option Elab.async false
set_option linter.all false
set_option maxRecDepth 100000
set_option maxHeartbeats 4000000
namespace A8
open PySem PySem.Spec PyProof.Rows L2 AL
open GxR (TabB TabG Tabbed)
/-- all but the pot stays -/
def Kp (p : Addr) (H H' : Hp) : Prop := ∀ b o, b ≠ p → H b = some o → H' b = some o
theorem Kp.refl {p : Addr} {H : Hp} : Kp p H H := fun _ _ _ e => e
theorem Kp.trans {p : Addr} {H H1 H2 : Hp} (a : Kp p H H1) (b : Kp p H1 H2) : Kp p H H2 := fun c o n e => b c o n (a c o n e)
theorem Kp.of {p : Addr} {H H' : Hp} (h : ∀ b, b ≠ p → H' b = H b) : Kp p H H' := fun b o n e => (h b n).trans e
theorem Kp.new {p q : Addr} {H : Hp} {o : HO} (h : H q = none) : Kp p H (upd H q o) := fun b u _ e => by rw [upd_ne (ne_of_none e h)]; exact e
theorem Kp.put {p q : Addr} {H H1 : Hp} {o : HO} (k : Kp p H H1) (h : H q = none) : Kp p H (upd H1 q o) := fun b u n e => by rw [upd_ne (ne_of_none e h)]; exact k b u n e
theorem Kp.same {p : Addr} {H H1 : Hp} (h : Same H H1) : Kp p H H1 := fun b o _ e => h b o e
theorem Kp.free {p q : Addr} {H H1 : Hp} (k : Kp p H H1) (h : H1 q = none) (n : q ≠ p) : H q = none := by
  cases z : H q with
  | none => rfl
  | some o =>
    rw [k q o n z] at h
    cases h
theorem PotAt.upd {H : Hp} {p q : Addr} {n : Nat} {o : HO} (h : PotAt H p n) (ne : p ≠ q) : PotAt (upd H q o) p n := by
  obtain ⟨x, y, z, e, r⟩ := h
  exact ⟨x, y, z, by rw [upd_ne ne]; exact e, r⟩
theorem PotAt.ne {H : Hp} {p q : Addr} {n : Nat} (h : PotAt H p n) (hq : H q = none) : q ≠ p := fun z => by
  obtain ⟨x, y, z', e, _⟩ := h
  rw [z, e] at hq
  cases hq
theorem PotAt.ne' {H : Hp} {p q : Addr} {n : Nat} {o : HO} (h : PotAt H p n) (hq : H q = some o) (no : ∀ x y z : Int, o ≠ .lst [.int x, .int y, .int z]) : q ≠ p := fun z => by
  obtain ⟨x, y, z', e, _⟩ := h
  rw [z, e] at hq
  exact no x y z' (Option.some.inj hq).symm
theorem PotAt.mono {H : Hp} {p : Addr} {n m : Nat} (h : PotAt H p n) (l : n ≤ m) : PotAt H p m := by
  obtain ⟨x, y, z, e, a, b, c, d, f⟩ := h
  exact ⟨x, y, z, e, a, b, c, d, by omega⟩
theorem erase_map {α β : Type} (f : α → β) : ∀ (l : List α) (i : Nat), (l.map f).eraseIdx i = (l.eraseIdx i).map f
  | [], _ => rfl
  | _ :: _, 0 => rfl
  | a :: l, i + 1 => congrArg (f a :: ·) (erase_map f l i)
theorem erase_perm {α : Type} : ∀ (l : List α) (i : Nat) (y : α), l[i]? = some y → (y :: l.eraseIdx i).Perm l
  | a :: l, 0, y, h => by
    have e : a = y := Option.some.inj h
    rw [e]
    exact .refl _
  | a :: l, i + 1, y, h => (List.Perm.swap a y (l.eraseIdx i)).trans ((erase_perm l i y h).cons a)
theorem names_ne_pot {xs : List Str} (x y z : Int) : HO.lst (xs.map V.str) ≠ .lst [.int x, .int y, .int z] := fun e => by
  injection e with e
  cases xs with
  | nil => cases e
  | cons a xs => injection e with e1 _; cases e1
end A8
set_option Elab.async false
set_option linter.all false
set_option maxRecDepth 100000
set_option maxHeartbeats 4000000
namespace A8
open PySem PySem.Spec PyProof.Rows L2 AL
open GxR (TabB TabG Tabbed)
theorem walk_str {x : Str} : Walk (Its x) x.cps.size (fun _ => True) (fun i H v H' => H' = H ∧ ∃ c, x.cps[i]? = some c ∧ v = .str ⟨#[c]⟩) := ⟨fun _ _ hi _ => hi, fun _ _ => Nat.le_refl _, fun _ _ _ _ _ _ y => y⟩
def letS : Str := "abcdefghijklmnopqrstuvwxyz"
def poolA : List Str := ["a", "b", "p", "g", "z", "ask", "net", "line", "none", "empty", "abcdefgh", "abcdefgi", "zzzzzzzz"]
def poolN : List Str := letS.cps.toList.map fun c => ("n" : Str) ++ (⟨#[c]⟩ : Str)
def poolK : List Str := letS.cps.toList.map fun c => ("k" : Str) ++ (⟨#[c]⟩ : Str)
def poolL : List Str := poolA ++ poolN ++ poolK
def nameB (x : Str) : Bool := decide (1 ≤ x.cps.size) && decide (x.cps.size ≤ 8) && x.cps.toList.all fun c => decide (97 ≤ c) && decide (c ≤ 122)
theorem nameB_ok {x : Str} (h : nameB x = true) : NameOk x := by
  unfold nameB at h
  rw [Bool.and_eq_true, Bool.and_eq_true, decide_eq_true_eq, decide_eq_true_eq] at h
  refine ⟨h.1.1, h.1.2, fun c hc => ?_⟩
  have := List.all_eq_true.mp h.2 c hc
  rw [Bool.and_eq_true, decide_eq_true_eq, decide_eq_true_eq] at this
  exact this
theorem pool_ok : ∀ x ∈ poolL, NameOk x := fun x hx => nameB_ok (List.all_eq_true.mp (show poolL.all nameB = true by decide +kernel) x hx)
theorem pool_nd : poolL.Nodup := by decide +kernel
theorem pool_len : poolL.length = 65 := by decide +kernel
abbrev sNames : Stmt := top 22
abbrev nNames : List Str := ["source", "size", "pool", "letters", "letter", "turn"]
theorem scNames : FnScope nNames ["source", "size"] (defScope sNames) := ⟨rfl, rfl, rfl, by decide +kernel, rfl, by decide +kernel, by decide +kernel⟩
def spNames : Sp := fun vs H Q _ => ∃ (p : Addr) (m n : Nat), vs = [.ref p, .int m] ∧ PotAt H p n ∧ n + m < 2 ^ 40 ∧ m ≤ 65 ∧
  ∀ (H' : Hp) (q : Addr) (ys rest : List Str), Kp p H H' → H q = none → H' q = some (.lst (ys.map V.str)) → PotAt H' p (n + m) → (ys ++ rest).Perm poolL → ys.length = m → Q (.ref q) H'
section
variable {P : Program} {w : World} {K : PySem.W.Frag} {mg : Str → Option Value} {base : Heap} {f c p1 : Addr} {fd : FuncData} {Ps : List Addr}
theorem ok_names (F : FunD K "_law_names" "_law_names" (defArgs sNames) (defBody sNames) (defScope sNames) [] [] f fd) (cT : Cal P w K mg base 1 "_law_pick" spPick) (gL : mg "len" = none) (gR : mg "range" = none) : FnOk P w K mg base CX0 2 f fd ["source", "size"] spNames := by
  refine F.ok scNames (fun vs H Q E h => ?_) ?_
  · obtain ⟨p, m, n, rfl, _⟩ := h
    rfl
  intro cdv A outer s H vs Q E hr h
  refine ⟨_, PSs.nox (pss_cons (ps_set (i := 2) scNames.nd rfl (Or.inr rfl) (pe_lst (pa_cons pe_str (pa_cons pe_str (pa_cons pe_str (pa_cons pe_str (pa_cons pe_str (pa_cons pe_str (pa_cons pe_str (pa_cons pe_str (pa_cons pe_str (pa_cons pe_str (pa_cons pe_str (pa_cons pe_str (pa_cons pe_str pa_nil)))))))))))))))
    (pss_cons (ps_set (i := 3) scNames.nd rfl (Or.inl rfl) pe_str)
    (pss_cons (ps_set (i := 2) scNames.nd rfl (Or.inr rfl) (pe_op op_cat (pe_op op_cat (pv 2)
      (pe_lc (own := [("letter", 4)]) (g := gName 4) (tt := tYes) rfl scNames.nd (pi_str (pv 3)) (blkOk_by (N := nNames) (sc := defScope sNames) (by decide +kernel)) (fun _ _ _ _ _ => pg_name (i := 4) scNames.nd rfl (Or.inl rfl)) (fun _ _ _ _ _ => pts_nil) (fun _ _ _ _ _ => pe_op op_add_str pe_str (pv 4))))
      (pe_lc (own := [("letter", 4)]) (g := gName 4) (tt := tYes) rfl scNames.nd (pi_str (pv 3)) (blkOk_by (N := nNames) (sc := defScope sNames) (by decide +kernel)) (fun _ _ _ _ _ => pg_name (i := 4) scNames.nd rfl (Or.inl rfl)) (fun _ _ _ _ _ => pts_nil) (fun _ _ _ _ _ => pe_op op_add_str pe_str (pv 4)))))
    (pss_one (ps_ret (pe_lc (own := [("turn", 5)]) (g := gName 5) (tt := tYes) (te := tBM K "list" rPopAt (tVar 2) (tCons (tCall spPick [] E0 (tCons (tVar 0) (tCons (tCB (rLenQ K) (tCons (tVar 2) tNil)) tNil))) tNil)) rfl scNames.nd (pi_range1 rfl gR (pa_cons (pv 1) pa_nil)) (blkOk_by (N := nNames) (sc := defScope sNames) (by decide +kernel))
      (fun _ _ _ _ _ => pg_name (i := 5) scNames.nd rfl (Or.inl rfl)) (fun _ _ _ _ _ => pts_nil)
      (fun _ _ _ _ _ => pe_bm PySem.F.plainAttrs_list PySem.F.slot_list_pop PySem.F.type_list_pop mt_popAt (pv 2) (pa_cons (pe_c cT hr (by decide) rfl (pa_cons (pv 0) (pa_cons (pe_callB call_len_seq rfl gL boot_len (pa_cons (pv 2) pa_nil)) pa_nil))) pa_nil)))))))), ?_⟩
  obtain ⟨p, m, n, rfl, hP, hn, hm, hQ⟩ := h
  refine seq_asg (fun v H1 => ∃ a, v = .ref a ∧ Same H H1 ∧ H1 a = some (.lst (poolA.map V.str))) (fun Q' hQ' => ?_) ?_
  · exact ⟨by show 13 ≤ sizeLine; decide, fun l hl => hQ' _ _ ⟨l, rfl, snew hl, upd_same⟩⟩
  rintro _ H1 ⟨l0, rfl, s1, h1⟩
  refine seq_asg (fun v H1' => v = .str letS ∧ H1 = H1') (fun Q' hQ' => hQ' _ _ ⟨rfl, rfl⟩) ?_
  rintro _ _ ⟨rfl, rfl⟩
  refine seq_asg (fun v H2 => ∃ a, v = .ref a ∧ Same H1 H2 ∧ H1 a = none ∧ H2 a = some (.lst (poolL.map V.str))) (fun Q' hQ' => ?_) ?_
  · refine ⟨_, rfl, _, rfl, letS, rfl, fun D hD => ?_⟩
    have grow : ∀ (G : Hp) (D : Addr) (z : Str) (zs : List Str), zs = (letS.cps.toList.map fun c => z ++ (⟨#[c]⟩ : Str)) → zs.length = 26 → ∀ i, i < 26 → ∀ ch, letS.cps[i]? = some ch → upd G D (.lst ((zs.take i).map V.str ++ [.str (z ++ ⟨#[ch]⟩)])) = upd G D (.lst ((zs.take (i + 1)).map V.str)) := by
      intro G D z zs e hl i hi ch hc
      have e2 : zs[i]? = some (z ++ (⟨#[ch]⟩ : Str)) := by
        rw [e, List.getElem?_map, Array.getElem?_toList, hc]
        rfl
      rw [List.take_succ, e2, List.map_append]
      rfl
    have l26 : letS.cps.size = 26 := by decide +kernel
    have nl : poolN.length = 26 := by decide +kernel
    have kl : poolK.length = 26 := by decide +kernel
    refine lc_it walk_str (fun i H' => H' = upd H1 D (.lst ((poolN.take i).map V.str))) rfl (fun _ _ _ _ => trivial) ?_ ?_
    · rintro i x H' H'' hi rfl ⟨rfl, ch, hc, rfl⟩
      rw [l26] at hi
      refine ⟨rfl, _, rfl, _, _, rfl, rfl, by show 1 + 1 ≤ sizeLine; rw [sizeLine_eq]; omega, _, upd_same, ?_, ?_⟩
      · rw [List.length_map, List.length_take, sizeLine_eq]
        omega
      · rw [upd_upd]
        exact grow H1 D "n" poolN rfl nl i hi ch hc
    · rintro H' rfl
      have e : poolN.take letS.cps.size = poolN := List.take_of_length_le (by rw [nl, l26]; exact Nat.le_refl _)
      rw [e]
      have a2 : Same H1 (upd H1 D (.lst (poolN.map V.str))) := snew hD
      have b2 : upd H1 D (.lst (poolN.map V.str)) D = some (.lst (poolN.map V.str)) := upd_same
      generalize upd H1 D (.lst (poolN.map V.str)) = H2 at a2 b2
      refine ⟨l0, D, _, _, rfl, rfl, a2 _ _ h1, b2, by rw [sizeLine_eq]; decide +kernel, fun c1 hc1 => ?_⟩
      have a3 : Same H2 (upd H2 c1 (.lst (poolA.map V.str ++ poolN.map V.str))) := snew hc1
      have b3 : upd H2 c1 (.lst (poolA.map V.str ++ poolN.map V.str)) c1 = some (.lst ((poolA ++ poolN).map V.str)) := by rw [upd_same, List.map_append]
      generalize upd H2 c1 (.lst (poolA.map V.str ++ poolN.map V.str)) = H3 at a3 b3
      refine ⟨_, rfl, letS, rfl, fun D2 hD2 => ?_⟩
      refine lc_it walk_str (fun i H' => H' = upd H3 D2 (.lst ((poolK.take i).map V.str))) rfl (fun _ _ _ _ => trivial) ?_ ?_
      · rintro i x H' H'' hi rfl ⟨rfl, ch, hc, rfl⟩
        rw [l26] at hi
        refine ⟨rfl, _, rfl, _, _, rfl, rfl, by show 1 + 1 ≤ sizeLine; rw [sizeLine_eq]; omega, _, upd_same, ?_, ?_⟩
        · rw [List.length_map, List.length_take, sizeLine_eq]
          omega
        · rw [upd_upd]
          exact grow H3 D2 "k" poolK rfl kl i hi ch hc
      · rintro H' rfl
        have e' : poolK.take letS.cps.size = poolK := List.take_of_length_le (by rw [kl, l26]; exact Nat.le_refl _)
        rw [e']
        have a4 : Same H3 (upd H3 D2 (.lst (poolK.map V.str))) := snew hD2
        have b4 : upd H3 D2 (.lst (poolK.map V.str)) D2 = some (.lst (poolK.map V.str)) := upd_same
        generalize upd H3 D2 (.lst (poolK.map V.str)) = H4 at a4 b4
        refine ⟨c1, D2, _, _, rfl, rfl, a4 _ _ b3, b4, by rw [sizeLine_eq]; decide +kernel, fun a ha => ?_⟩
        refine hQ' _ _ ⟨a, rfl, a2.trans (a3.trans (a4.trans (snew ha))), (a2.trans (a3.trans a4)).free ha, ?_⟩
        rw [upd_same, ← List.map_append]
        rfl
  rintro _ H2 ⟨L, rfl, s2, hL1, hL2⟩
  have s02 : Same H H2 := s1.trans s2
  have hP1 : PotAt H2 p n := by
    obtain ⟨x, y, z, e, r⟩ := hP
    exact ⟨x, y, z, s02 _ _ e, r⟩
  have k1 : Kp p H H2 := .same s02
  have Lp : L ≠ p := hP1.ne' hL2 names_ne_pot
  have hL : H L = none := s1.free hL1
  refine ⟨_, rfl, (m : Int), rfl, by omega, by omega, fun D hD => ?_⟩
  have Dp : D ≠ p := hP1.ne hD
  have DL : D ≠ L := fun z => by rw [z, hL2] at hD; cases hD
  have HD : H D = none := k1.free hD Dp
  refine lc_range (lo := 0) (n := (m : Int).toNat) (fun i H' => ∃ ys rest : List Str, Kp p H H' ∧ H' D = some (.lst (ys.map V.str)) ∧ H' L = some (.lst (rest.map V.str)) ∧ PotAt H' p (n + i) ∧ (ys ++ rest).Perm poolL ∧ ys.length = i)
    ⟨[], poolL, k1.put HD, upd_same, by rw [upd_ne (Ne.symm DL)]; exact hL2, hP1.upd (Ne.symm Dp), .refl _, rfl⟩ ?_ ?_
  · rintro i H' hi ⟨ys, rest, k, hd, hl, hp, pm, le⟩
    have hi' : i < m := by omega
    have hlen : ys.length + rest.length = 65 := by
      have := pm.length_eq
      rw [List.length_append, pool_len] at this
      exact this
    refine ⟨rfl, _, rfl, .inl ⟨rfl, _, .inl (.inl hl)⟩, _, rfl, _, rfl, L, _, rfl, .inl (.inl (.inl hl)), p, _, n + i, rfl, hp, by omega, ?_, ?_, fun H2 j hp2 only j0 j1 => ?_⟩
    · rw [List.length_map]; omega
    · rw [List.length_map]; omega
    · have hl2 : H2 L = some (.lst (rest.map V.str)) := (only L Lp).trans hl
      have hd2 : H2 D = some (.lst (ys.map V.str)) := (only D Dp).trans hd
      rw [List.length_map] at j1
      obtain ⟨jn, rfl⟩ : ∃ jn : Nat, j = jn := ⟨j.toNat, (Int.toNat_of_nonneg j0).symm⟩
      have jl : jn < rest.length := by omega
      obtain ⟨y, hy⟩ : ∃ y, rest[jn]? = some y := ⟨_, List.getElem?_eq_getElem jl⟩
      refine ⟨L, rest.map V.str, jn, jn, .str y, rfl, rfl, hl2, by omega, by omega, ?_, by rw [List.getElem?_map, hy]; rfl, ?_⟩
      · exact (ixN_seq (show ixN (rest.map V.str).length (jn : Int) = some jn from by
          unfold ixN
          rw [if_pos (by omega), if_pos (by rw [List.length_map]; omega), Int.toNat_natCast])).1
      · rw [erase_map]
        refine ⟨ys.map V.str, by rw [upd_ne DL]; exact hd2, by rw [List.length_map, sizeLine_eq]; omega, ys ++ [y], rest.eraseIdx jn, ?_, ?_, ?_, ?_, ?_, ?_⟩
        · exact ((k.trans (Kp.of only)).put hL).put HD
        · rw [upd_same, List.map_append]
          rfl
        · rw [upd_ne (Ne.symm DL)]
          exact upd_same
        · exact (hp2.upd (Ne.symm Lp)).upd (Ne.symm Dp)
        · rw [List.append_assoc]
          exact ((erase_perm rest jn y hy).append_left ys).trans pm
        · rw [List.length_append, le]
          rfl
  · rintro H' ⟨ys, rest, k, hd, hl, hp, pm, le⟩
    rw [Int.toNat_natCast] at hp le
    exact hQ H' D ys rest k HD hd hp pm le
end
end A8
set_option Elab.async false
set_option linter.all false
set_option maxRecDepth 100000
set_option maxHeartbeats 8000000
namespace A8
open PySem PySem.Spec PyProof.Rows L2 AL
open GxR (TabB TabG Tabbed)
abbrev sCheckText : Stmt := top 12
theorem scCheckText : FnScope ["value"] ["value"] (defScope sCheckText) := ⟨rfl, rfl, rfl, by decide +kernel, rfl, by decide +kernel, by decide +kernel⟩
def spCheckText : Sp := fun vs H Q _ => ∃ x : Str, vs = [.str x] ∧ Q .non H
abbrev sAreNames : Stmt := top 13
abbrev nAreNames : List Str := ["value", "most", "entry"]
theorem scAreNames : FnScope nAreNames ["value", "most"] (defScope sAreNames) := ⟨rfl, rfl, rfl, by decide +kernel, rfl, by decide +kernel, by decide +kernel⟩
def spAreNames (Ps : List Addr) : Sp := fun vs H Q _ => ∃ (l : Addr) (xs : List Str) (m : Nat), vs = [.ref l, .int m] ∧ H l = some (.lst (xs.map V.str)) ∧ xs.length ≤ m ∧ (∀ y ∈ xs, NameOk y) ∧ Tabs Ps H ∧ ∀ H', Ext Ps H H' → Q (.bl true) H'
abbrev sShowLine : Stmt := top 14
theorem scShowLine : FnScope ["line"] ["line"] (defScope sShowLine) := ⟨rfl, rfl, rfl, by decide +kernel, rfl, by decide +kernel, by decide +kernel⟩
def spShowLine (Ps : List Addr) : Sp := fun vs H Q _ => ∃ (l : Addr) (xs : List Str), vs = [.ref l] ∧ H l = some (.lst (xs.map V.str)) ∧ 1 ≤ xs.length ∧ xs.length ≤ 400 ∧ (∀ y ∈ xs, NameOk y) ∧ Tabs Ps H ∧ ∀ H', Ext Ps H H' → Q (.str (Txt.join " " xs)) H'
abbrev sReadLine : Stmt := top 15
theorem scReadLine : FnScope ["text", "line"] ["text"] (defScope sReadLine) := ⟨rfl, rfl, rfl, by decide +kernel, rfl, by decide +kernel, by decide +kernel⟩
def spReadLine (Ps : List Addr) : Sp := fun vs H Q _ => ∃ (xs : List Str), vs = [.str (Txt.join " " xs)] ∧ 1 ≤ xs.length ∧ xs.length ≤ 400 ∧ (∀ y ∈ xs, NameOk y) ∧ Tabs Ps H ∧ ∀ H' q, Ext Ps H H' → H q = none → H' q = some (.lst (xs.map V.str)) → Q (.ref q) H'
abbrev sNamed : Stmt := top 17
abbrev nNamed : List Str := ["value", "node"]
theorem scNamed : FnScope nNamed ["value"] (defScope sNamed) := ⟨rfl, rfl, rfl, by decide +kernel, rfl, by decide +kernel, by decide +kernel⟩
def spNamed (Ps : List Addr) : Sp := fun vs H Q _ => ∃ (d : Addr) (lt : List Row), vs = [.ref d] ∧ H d = some (.dK (kvsOf lt)) ∧ RowsAt H lt ∧ Named lt ∧ Tabs Ps H ∧ ∀ H', Ext Ps H H' → Q (.bl true) H'
abbrev sShowLogs : Stmt := top 16
abbrev nShowLogs : List Str := ["logs", "node"]
theorem scShowLogs : FnScope nShowLogs ["logs"] (defScope sShowLogs) := ⟨rfl, rfl, rfl, by decide +kernel, rfl, by decide +kernel, by decide +kernel⟩
def spShowLogs (Ps : List Addr) : Sp := fun vs H Q _ => ∃ (d : Addr) (lt : List Row), vs = [.ref d] ∧ H d = some (.dK (kvsOf lt)) ∧ RowsAt H lt ∧ Named lt ∧ Tabs Ps H ∧ ∀ H' (ys : List Str), Ext Ps H H' → ys.Perm (lt.map (·.1)) → sortedS ys = true → Q (.str (logsT lt ys)) H'
section
variable {P : Program} {w : World} {K : PySem.W.Frag} {mg : Str → Option Value} {base : Heap} {f c p1 : Addr} {fd : FuncData} {Ps : List Addr}
theorem ok_checkText (F : FunD K "check_text" "check_text" (defArgs sCheckText) (defBody sCheckText) (defScope sCheckText) [] [] f fd) (gI : mg "isinstance" = none) (gS : mg "str" = none) : FnOk P w K mg base CX0 1 f fd ["value"] spCheckText := by
  refine F.ok scCheckText (fun vs H Q E h => ?_) ?_
  · obtain ⟨x, rfl, _⟩ := h
    rfl
  intro cdv A outer s H vs Q E hr h
  refine ⟨_, PSs.nox (pss_one (ps_if (pt_not (pt_val (pe_callB call_isi rfl gI (by decide +kernel) (pa_cons (pv 0) (pa_cons (pe_bltn (u := .type "str") (v := .ty "str") rfl gS (by decide +kernel) rfl) pa_nil))))) pss_never pss_nil)), ?_⟩
  obtain ⟨x, rfl, hQ⟩ := h
  exact ⟨_, rfl, _, _, .type "str", .type "str", true, rfl, .ty "str", .base (.str x), kit_ty (by decide +kernel), true, rfl, iteF hQ⟩
theorem ok_areNames (F : FunD K "are_names" "are_names" (defArgs sAreNames) (defBody sAreNames) (defScope sAreNames) [] [] f fd) (hc : fd.code = .ref c) (TB : TabB base mg c p1) (hp : p1 ∈ Ps)
    (cN : Cal P w K mg base 2 "is_name" (spIsName Ps)) (gI : mg "isinstance" = none) (gA : mg "all" = none) (gL : mg "len" = none) (gD : mg "list" = none) : FnOk P w K mg base CX0 4 f fd ["value", "most"] (spAreNames Ps) := by
  refine okC F hc scAreNames (fun vs H Q E h => ?_) ?_
  · obtain ⟨l, xs, m, rfl, _⟩ := h
    rfl
  intro A outer s H vs Q E hr h
  refine ⟨_, pss_one (ps_ret (pe_and (pe_callB call_isi rfl gI (by decide +kernel) (pa_cons (pv 0) (pa_cons (pe_bltn (u := .type "list") (v := .ty "list") rfl gD (by decide +kernel) rfl) pa_nil)))
      (pe_and (pe_cmpR op_le (pe_callB call_len_seq rfl gL boot_len (pa_cons (pv 0) pa_nil)) (pv 1) (nomark _))
        (pe_one (pe_allG (k := 2) (own := [("entry", 2)]) hr rfl scAreNames.nd rfl gA TB rfl (gOk_by (N := nAreNames) (sc := defScope sAreNames) (by decide +kernel) rfl (by decide +kernel) rfl) (pi_list (pv 0)) (fun s H C cl code fp A pn => pg_name (i := 2) scAreNames.nd rfl (Or.inl rfl))
          (fun s H C cl code fp A pn hr => pe_c cN hr (by decide) rfl (pa_cons (pv 2) pa_nil))))))), ?_⟩
  obtain ⟨l, xs, m, rfl, hl, lm, hn, ht, hQ⟩ := h
  refine ⟨_, rfl, _, _, .type "list", .type "list", true, rfl, .ty "list", .base (.lst hl), kit_ty (by decide +kernel), true, rfl, iteT ?_⟩
  refine ⟨_, rfl, l, _, rfl, .inl (.inl (.inl hl)), _, rfl, _, _, rfl, rfl, true, congrArg V.bl (decide_eq_true (by rw [List.length_map]; omega)), iteT ?_⟩
  refine ⟨_, rfl, l, rfl, ⟨_, .inl (.inl hl)⟩, ht _ hp, fun H2 hT => ?_⟩
  have e2 := Ext.tabbed hp hT
  refine all_list (I := fun H' => Ext Ps H H') e2 (fun _ z => .inl (.inl (z.get ht hl fun _ z => HO.noConfusion z))) (fun i x H3 Nx hx e hN => ?_) fun H3 e => hQ _ e
  rw [List.getElem?_map] at hx
  cases q : xs[i]? with
  | none => rw [q] at hx; cases hx
  | some y =>
    rw [q] at hx
    cases hx
    exact ⟨rfl, _, rfl, y, rfl, hn y (List.mem_of_getElem? q), e.tabs ht, fun H' e' => hN _ (e.trans e')⟩
theorem ok_showLine (F : FunD K "show_line" "show_line" (defArgs sShowLine) (defBody sShowLine) (defScope sShowLine) [] [] f fd) (cA : Cal P w K mg base 4 "are_names" (spAreNames Ps)) {tk : Tok} (gM : mg "MOST_ENTRIES" = some (.int 400 tk)) : FnOk P w K mg base CX0 5 f fd ["line"] (spShowLine Ps) := by
  refine F.ok scShowLine (fun vs H Q E h => ?_) ?_
  · obtain ⟨l, xs, rfl, _⟩ := h
    rfl
  intro cdv A outer s H vs Q E hr h
  refine ⟨_, PSs.nox (pss_cons (ps_if (PW.pt (pw_or (pt_not (pt_val (pe_c cA hr (by decide) rfl (pa_cons (pv 0) (pa_cons (pe_glob (v := .int 400) rfl gM ⟨_, rfl⟩) pa_nil))))) (pw_or1 (pt_not (pt_truth (pv 0) (by intro _; rfl)))))) pss_never pss_nil)
    (pss_one (ps_ret (pe_join pe_str (pv 0))))), ?_⟩
  obtain ⟨l, xs, rfl, hl, x1, x4, hn, ht, hQ⟩ := h
  refine ⟨_, rfl, l, xs, 400, rfl, hl, x4, hn, ht, fun H1 e1 => ⟨true, rfl, iteF ?_⟩⟩
  have hl1 := e1.get ht hl fun _ z => HO.noConfusion z
  have ne : xs.map V.str ≠ [] := fun z => by
    have := congrArg List.length z
    rw [List.length_map] at this
    have : xs.length = 0 := this
    omega
  refine ⟨_, rfl, true, .inl ⟨_, .inl (.inl hl1), ?_⟩, iteF ?_⟩
  · cases q : xs.map V.str with
    | nil => exact (ne q).elim
    | cons a b => rfl
  refine ⟨⟨_, rfl⟩, _, rfl, _, l, xs, rfl, rfl, .inl (.inl (.inl hl1)), ?_, hQ _ e1⟩
  have h1 := sum_names (k := 8) fun y hy => name_len (hn y hy)
  have : (" " : Str).length = 1 := by decide +kernel
  rw [this]
  omega
theorem ok_readLine (F : FunD K "read_line" "read_line" (defArgs sReadLine) (defBody sReadLine) (defScope sReadLine) [] [] f fd) (cC : Cal P w K mg base 1 "check_text" spCheckText) (cA : Cal P w K mg base 4 "are_names" (spAreNames Ps)) {tk : Tok} (gM : mg "MOST_ENTRIES" = some (.int 400 tk)) : FnOk P w K mg base CX0 5 f fd ["text"] (spReadLine Ps) := by
  refine F.ok scReadLine (fun vs H Q E h => ?_) ?_
  · obtain ⟨xs, rfl, _⟩ := h
    rfl
  intro cdv A outer s H vs Q E hr h
  refine ⟨_, PSs.nox (pss_cons (ps_expr (pe_c cC hr (by decide) rfl (pa_cons (pv 0) pa_nil)))
    (pss_cons (ps_set (i := 1) scReadLine.nd rfl (Or.inl rfl) (pe_split (pv 0) pe_str))
    (pss_cons (ps_if (pt_not (pt_val (pe_c cA hr (by decide) rfl (pa_cons (pv 1) (pa_cons (pe_glob (v := .int 400) rfl gM ⟨_, rfl⟩) pa_nil))))) pss_never pss_nil)
    (pss_one (ps_ret (pv 1)))))), ?_⟩
  obtain ⟨xs, rfl, x1, x4, hn, ht, hQ⟩ := h
  have sp : Txt.split (Txt.join " " xs) " " = xs := by
    rw [sp_eq]
    refine split_join (fun z => by rw [z] at x1; exact absurd x1 (by decide)) fun y hy => name_free (hn y hy) (by decide)
  have ln : (Txt.join " " xs).length + 2 ≤ sizeLine := by
    have := join_len (c := 32) (k := 8) (ys := xs) fun y hy => name_len (hn y hy)
    rw [← sp_eq] at this
    rw [sizeLine_eq]
    omega
  refine ⟨_, rfl, _, rfl, _, rfl, ⟨_, rfl⟩, _, _, rfl, rfl, by decide +kernel, ln, fun q hq => ?_⟩
  rw [sp]
  have e1 : Ext Ps H (upd H q (.lst (xs.map V.str))) := .new hq
  have hq1 : upd H q (.lst (xs.map V.str)) q = some (.lst (xs.map V.str)) := upd_same
  generalize upd H q (.lst (xs.map V.str)) = H1 at e1 hq1
  refine ⟨_, rfl, q, xs, 400, rfl, hq1, x4, hn, e1.tabs ht, fun H2 e2 => ⟨true, rfl, iteF ?_⟩⟩
  exact ⟨_, rfl, hQ _ q (e1.trans e2) hq (e2.get (e1.tabs ht) hq1 fun _ z => HO.noConfusion z)⟩
theorem ok_named (F : FunD K "_are_named_logs" "_are_named_logs" (defArgs sNamed) (defBody sNamed) (defScope sNamed) [] [] f fd) (hc : fd.code = .ref c) (TB : TabB base mg c p1) (hp : p1 ∈ Ps)
    (cN : Cal P w K mg base 2 "is_name" (spIsName Ps)) (cA : Cal P w K mg base 4 "are_names" (spAreNames Ps)) (gI : mg "isinstance" = none) (gA : mg "all" = none) (gL : mg "len" = none) (gD : mg "dict" = none) {tk tk2 : Tok} (gM : mg "MOST_NODES" = some (.int 40 tk)) (gM2 : mg "MOST_LOGGED" = some (.int 400 tk2)) : FnOk P w K mg base CX0 6 f fd ["value"] (spNamed Ps) := by
  refine okC F hc scNamed (fun vs H Q E h => ?_) ?_
  · obtain ⟨d, t, rfl, _⟩ := h
    rfl
  intro A outer s H vs Q E hr h
  refine ⟨_, pss_one (ps_ret (pe_and (pe_callB call_isi rfl gI (by decide +kernel) (pa_cons (pv 0) (pa_cons (pe_bltn (u := .type "dict") (v := .ty "dict") rfl gD (by decide +kernel) rfl) pa_nil)))
      (pe_and (pe_chain op_le op_le pe_int (pe_callB call_lenR rfl gL boot_len (pa_cons (pv 0) pa_nil)) (pe_glob (v := .int 40) rfl gM ⟨_, rfl⟩))
        (pe_and (pe_may (pe_allG (k := 4) (own := [("node", 1)]) hr rfl scNamed.nd rfl gA TB rfl (gOk_by (N := nNamed) (sc := defScope sNamed) (by decide +kernel) rfl (by decide +kernel) rfl) (pi_keys (pv 0)) (fun s H C cl code fp A pn => pg_name (i := 1) scNamed.nd rfl (Or.inl rfl))
          (fun s H C cl code fp A pn hr => pe_c cN hr (by decide) rfl (pa_cons (pv 1) pa_nil))))
          (pe_one (pe_may (pe_allG (k := 4) (own := [("node", 1)]) hr rfl scNamed.nd rfl gA TB rfl (gOk_by (N := nNamed) (sc := defScope sNamed) (by decide +kernel) rfl (by decide +kernel) rfl) (pi_keys (pv 0)) (fun s H C cl code fp A pn => pg_name (i := 1) scNamed.nd rfl (Or.inl rfl))
          (fun s H C cl code fp A pn hr => pe_c cA hr (by decide) rfl (pa_cons (pe_dget (hu_of hr) (pv 0) (pv 1) (fun _ _ => rfl)) (pa_cons (pe_glob (v := .int 400) rfl gM2 ⟨_, rfl⟩) pa_nil)))))))))), ?_⟩
  obtain ⟨d, t, rfl, hd0, hR, ok, ht, hQ⟩ := h
  have hd : Rd H d (.dK (kvsOf t)) := .inl hd0
  have n1 := ok.n1
  have n40 := ok.n40
  refine ⟨_, rfl, _, _, .type "dict", .type "dict", true, rfl, .ty "dict", tyDict hd, kit_ty (by decide +kernel), true, rfl, iteT ?_⟩
  refine ⟨_, rfl, d, _, rfl, hd, _, _, rfl, rfl, true, congrArg V.bl (decide_eq_true (by rw [kvsOf_len]; omega)), iteT ?_⟩
  refine ⟨_, _, rfl, rfl, true, congrArg V.bl (decide_eq_true (by rw [kvsOf_len]; omega)), iteT ?_⟩
  refine quant_keys hp hd rfl ht (fun od H0 bk L t0 i k v H1 Nx hk e hN => ?_) fun HA eA => ⟨true, rfl, iteT ?_⟩
  · obtain ⟨r, hr, hrt, rfl, rfl⟩ := kvsOf_at hk
    exact ⟨rfl, _, rfl, r.1, rfl, ok.names r hrt, e.tabs t0, fun H' e' => hN _ (e.trans e')⟩
  have hdA := eA.rdL ht nTb hd
  have hRA := eA.rows ht hR
  have htA := eA.tabs ht
  refine quant_keys hp hdA rfl htA (fun od H0 bk L t0 i k v H1 Nx hk e hN => ?_) fun HB eB => hQ _ (eA.trans eB)
  obtain ⟨r, hr, hrt, rfl, rfl⟩ := kvsOf_at hk
  have hR0 : RowsAt H0 t := fun r hr => L.get hdA (hRA r hr) (fun z => by cases z) fun _ z => by cases z
  have T1 : Rd H1 d (.dK (kvsOf t)) := .inr ⟨od, e.get t0 L.f fun _ z => by cases z⟩
  refine ⟨rfl, _, rfl, _, rfl, d, _, rfl, .inl ⟨_, Sum.inr r.1, T1, rfl, (valV_row hrt ok.nd).symm⟩, r.2.1, r.2.2, 400, rfl, e.rows t0 hR0 r hrt, ok.l400 r hrt, ok.ents r hrt, e.tabs t0, fun H' e' => hN _ (e.trans e')⟩
theorem ok_showLogs (F : FunD K "show_logs" "show_logs" (defArgs sShowLogs) (defBody sShowLogs) (defScope sShowLogs) [] [] f fd) (cN : Cal P w K mg base 6 "_are_named_logs" (spNamed Ps)) (gS : mg "sorted" = none) : FnOk P w K mg base CX0 7 f fd ["logs"] (spShowLogs Ps) := by
  refine F.ok scShowLogs (fun vs H Q E h => ?_) ?_
  · obtain ⟨d, t, rfl, _⟩ := h
    rfl
  intro cdv A outer s H vs Q E hr h
  refine ⟨_, PSs.nox (pss_cons (ps_if (pt_not (pt_val (pe_c cN hr (by decide) rfl (pa_cons (pv 0) pa_nil)))) pss_never pss_nil)
    (pss_one (ps_ret (pe_join pe_str (pe_lc (own := [("node", 1)]) (g := gName 1) (tt := tYes) (te := tM1 (rJoin K) (tC (.str " ")) (tLst (tCons (fun σ H Q => tJs [tFmt (tVar 1), tC (.str ":")] Str.empty σ H fun out H1 => Q (.str out) H1) (StX.tStar K (tDGet (tVar 0) (tVar 1)) tNil)))) rfl scShowLogs.nd (pi_list (pe_callB (call_sortedD rfl) rfl gS (by decide +kernel) (pa_cons (pv 0) pa_nil))) (blkOk_by (N := nShowLogs) (sc := defScope sShowLogs) (by decide +kernel))
      (fun _ _ _ _ _ => pg_name (i := 1) scShowLogs.nd rfl (Or.inl rfl)) (fun _ _ _ _ _ => pts_nil) (fun _ _ _ _ _ => pe_join pe_str (pe_lst (pa_cons (pe_joined (.cons (pe_fmt (pv 1)) (.cons pe_str .nil))) (StX.pa_star (pe_dget (hu_of hr) (pv 0) (pv 1) (fun _ _ => rfl)) pa_nil))))))))), ?_⟩
  obtain ⟨d, t, rfl, hd, hR, ok, ht, hQ⟩ := h
  refine ⟨_, rfl, d, t, rfl, hd, hR, ok, ht, fun H1 e1 => ⟨true, rfl, iteF ?_⟩⟩
  have hd1 := e1.get ht hd fun _ z => HO.noConfusion z
  have hR1 := e1.rows ht hR
  have t1 := e1.tabs ht
  have n40 := ok.n40
  refine ⟨⟨_, rfl⟩, _, rfl, d, kvsOf t, t.map (·.1), rfl, .inl hd1, by unfold kvsOf; rw [List.map_map, List.map_map]; rfl, by rw [List.length_map]; omega, fun ys so pm sos hs0 => ?_⟩
  have s2 : Same H1 (upd H1 so (.lst (ys.map V.str))) := snew hs0
  have hso2 : upd H1 so (.lst (ys.map V.str)) so = some (.lst (ys.map V.str)) := upd_same
  generalize upd H1 so (.lst (ys.map V.str)) = H2 at s2 hso2
  have e2 : Ext Ps H H2 := e1.trans (Ext.same s2)
  have t2 := e2.tabs ht
  have yl := pm.length_eq
  rw [List.length_map] at yl
  refine ⟨so, rfl, ⟨_, .inl (.inl hso2)⟩, fun D hD => ?_⟩
  have nD : D ∉ Ps := notPs t2 hD
  refine lc_list (K := K) (xs := ys.map V.str) (fun i G => Ext Ps H2 G ∧ G D = some (.lst (((ys.take i).map fun y => rowT y (lgOf t y)).map V.str))) ⟨.new hD, upd_same⟩ (fun i G _ e => .inl (.inl (e.1.get t2 hso2 fun _ z => HO.noConfusion z))) ?_ ?_
  · rintro i x G hx ⟨eG, hDG⟩
    rw [List.getElem?_map] at hx
    cases hy : ys[i]? with
    | none => rw [hy] at hx; cases hx
    | some y =>
    rw [hy] at hx
    cases hx
    have il := at_lt hy
    obtain ⟨r, hr, er, el⟩ := ok.of pm (List.mem_of_getElem? hy)
    have dG := eG.get t2 (s2 _ _ hd1) fun _ z => HO.noConfusion z
    have rG := eG.get t2 (s2 _ _ (hR1 r hr)) fun _ z => HO.noConfusion z
    have ny : NameOk y := er ▸ ok.names r hr
    have l8 := name_len ny
    have l4 := ok.l400 r hr
    have lc : (":" : Str).length = 1 := by decide +kernel
    refine ⟨rfl, ⟨_, rfl⟩, _, rfl, .inl ⟨y, rfl, by rw [sizeLine_eq]; omega, y, rfl, by rw [Str.empty_append, sizeLine_eq]; omega, _, rfl, by rw [len_app, Str.empty_append, lc, sizeLine_eq]; omega, ?_⟩⟩
    refine ⟨_, rfl, _, rfl, d, _, rfl, .inl ⟨_, Sum.inr y, .inl dG, rfl, by rw [← er]; exact (valV_row hr ok.nd).symm⟩, r.2.1, _, rfl, .inr (.inl (.inl rG)), by rw [List.append_nil, List.length_cons, List.length_map, sizeLine_eq]; omega, fun B hB => ?_⟩
    rw [List.append_nil, Str.empty_append]
    have BD : D ≠ B := ne_of_none hDG hB
    have eB : Ext Ps H2 (upd G B (.lst (V.str (y ++ ":") :: r.2.2.map V.str))) := eG.trans (.new hB)
    refine ⟨" ", B, (y ++ ":") :: r.2.2, rfl, rfl, .inl (.inl (.inl upd_same)), ?_, _, by rw [upd_ne BD]; exact hDG, by rw [List.length_map, List.length_map, List.length_take, sizeLine_eq]; omega, ?_, ?_⟩
    · have h1 := sum_names (k := 9) (ys := (y ++ ":") :: r.2.2) fun z hz => by
        rcases List.mem_cons.mp hz with w | w
        · rw [w, len_app, lc]
          omega
        · have := name_len (ok.ents r hr z w)
          omega
      have lb : (" " : Str).length = 1 := by decide +kernel
      rw [lb]
      rw [List.length_cons] at h1 ⊢
      omega
    · exact eB.put hD nD
    · rw [upd_same, List.take_succ, hy, List.map_append, List.map_append]
      have : rowT y (lgOf t y) = Txt.join " " ((y ++ ":") :: r.2.2) := by rw [el]; rfl
      rw [← this]
      rfl
  rintro G ⟨eG, hDG⟩
  rw [List.length_map, List.take_length] at hDG
  refine ⟨"\n", D, ys.map fun y => rowT y (lgOf t y), rfl, rfl, .inl (.inl (.inl hDG)), ?_, hQ _ ys (e2.trans eG) pm sos⟩
  have h1 := sum_names (k := 4010) (ys := ys.map fun y => rowT y (lgOf t y)) fun z hz => by
    obtain ⟨y, hy, rfl⟩ := List.mem_map.mp hz
    exact rows_len ok pm y hy
  have lb : ("\n" : Str).length = 1 := by decide +kernel
  rw [lb]
  rw [List.length_map] at h1 ⊢
  omega
end
abbrev sReadLogs : Stmt := top 18
abbrev nReadLogs : List Str := ["text", "logs", "row", "words"]
theorem scReadLogs : FnScope nReadLogs ["text"] (defScope sReadLogs) := ⟨rfl, rfl, rfl, by decide +kernel, rfl, by decide +kernel, by decide +kernel⟩
/-- the logs read: lists of their own, in the order of the names -/
def spReadLogs (Ps : List Addr) : Sp := fun vs H Q _ => ∃ (lt : List Row) (ys : List Str), vs = [.str (logsT lt ys)] ∧ Named lt ∧ ys.Perm (lt.map (·.1)) ∧ sortedS ys = true ∧ Tabs Ps H ∧
  ∀ H' q (zt : List Row), Ext Ps H H' → H q = none → H' q = some (.dK (kvsOf zt)) → RowsAt H' zt → zt.map (·.1) = ys → (∀ r ∈ zt, r.2.2 = lgOf lt r.1 ∧ H r.2.1 = none) → (zt.map (·.2.1)).Nodup → Q (.ref q) H'
section
variable {P : Program} {w : World} {K : PySem.W.Frag} {mg : Str → Option Value} {base : Heap} {f c p1 : Addr} {fd : FuncData} {Ps : List Addr}
theorem ok_readLogs (F : FunD K "read_logs" "read_logs" (defArgs sReadLogs) (defBody sReadLogs) (defScope sReadLogs) [] [] f fd) (cC : Cal P w K mg base 1 "check_text" spCheckText) (cN : Cal P w K mg base 6 "_are_named_logs" (spNamed Ps)) (cS : Cal P w K mg base 7 "show_logs" (spShowLogs Ps)) : FnOk P w K mg base CX0 8 f fd ["text"] (spReadLogs Ps) := by
  refine F.ok scReadLogs (fun vs H Q E h => ?_) ?_
  · obtain ⟨lt, ys, rfl, _⟩ := h
    rfl
  intro cdv A outer s H vs Q E hr h
  refine ⟨_, PSs.nox (pss_cons (ps_expr (pe_c cC hr (by decide) rfl (pa_cons (pv 0) pa_nil)))
    (pss_cons (ps_set (i := 1) scReadLogs.nd rfl (Or.inl rfl) pe_dnewK)
    (pss_cons (ps_for PassesOwn.never rfl (pi_list (pe_split (pv 0) pe_str)) (pg_name (i := 2) scReadLogs.nd rfl (Or.inl rfl))
      (pss_cons (ps_set (i := 3) scReadLogs.nd rfl (Or.inl rfl) (pe_split (pv 2) pe_str))
      (pss_one (ps_dput (hu_of hr) (pv 1) (pe_slice sl_str (pe_ix ix_list (pv 3) pe_int (fun _ _ => rfl)) po_none (po_some (pe_un un_neg pe_int))) (pe_slice sl_list (pv 3) (po_some pe_int) po_none) rfl))))
    (pss_cons (ps_if (PW.pt (pw_or (pt_not (pt_val (pe_c cN hr (by decide) rfl (pa_cons (pv 1) pa_nil)))) (pw_or1 (pt_cmpR op_ne (pe_c cS hr (by decide) rfl (pa_cons (pv 1) pa_nil)) (pv 0) rfl)))) pss_never pss_nil)
    (pss_one (ps_ret (pv 1))))))), ?_⟩
  obtain ⟨lt, ys, rfl, ok, pm, sos, ht, hQ⟩ := h
  have n40 := ok.n40
  have yl := pm.length_eq
  rw [List.length_map] at yl
  have ydn : ys.Nodup := pm.symm.nodup ok.nd
  obtain ⟨T, eT⟩ : ∃ T, T = logsT lt ys := ⟨_, rfl⟩
  have Tl := logs_len ok pm
  have Tsp := logs_split ok pm
  have Tfin : ∀ zt : List Row, zt.map (·.1) = ys → (∀ r ∈ zt, r.2.2 = lgOf lt r.1) → Named zt ∧ logsT zt ys = logsT lt ys := fun zt nm lg => by
    have nd : (zt.map (·.1)).Nodup := by rw [nm]; exact ydn
    have zl := congrArg List.length nm
    rw [List.length_map] at zl
    have src : ∀ r ∈ zt, ∃ s ∈ lt, s.1 = r.1 ∧ r.2.2 = s.2.2 := fun r hr => by
      obtain ⟨s, hs, es, el⟩ := ok.of pm (show r.1 ∈ ys by rw [← nm]; exact List.mem_map.mpr ⟨r, hr, rfl⟩)
      exact ⟨s, hs, es, (lg r hr).trans el⟩
    have n1 := ok.n1
    refine ⟨⟨by omega, by omega, nd, fun r hr => ?_, fun r hr y hy => ?_, fun r hr => ?_⟩, ?_⟩
    · obtain ⟨s, hs, es, el⟩ := src r hr
      rw [← es]
      exact ok.names s hs
    · obtain ⟨s, hs, es, el⟩ := src r hr
      rw [el] at hy
      exact ok.ents s hs y hy
    · obtain ⟨s, hs, es, el⟩ := src r hr
      rw [el]
      exact ok.l400 s hs
    · unfold logsT
      refine congrArg _ (List.map_congr_left fun y hy => ?_)
      rw [← nm] at hy
      obtain ⟨r, hr, er⟩ := List.mem_map.mp hy
      have er : r.1 = y := er
      rw [← er, lgOf_at nd hr, lg r hr]
  rw [← eT] at Tl Tsp Tfin ⊢
  refine ⟨_, rfl, _, rfl, fun N hN => ?_⟩
  have e1 : Ext Ps H (upd H N (.dK [])) := .new hN
  have hN1 : upd H N (.dK []) N = some (.dK (kvsOf [])) := upd_same
  generalize upd H N (.dK []) = H1 at e1 hN1
  have nN : N ∉ Ps := notPs ht hN
  refine ⟨_, rfl, ⟨_, rfl⟩, _, _, rfl, rfl, by decide +kernel, by rw [sizeLine_eq]; omega, fun RL hRL => ?_⟩
  rw [Tsp]
  have e2 : Ext Ps H (upd H1 RL (.lst ((ys.map fun y => rowT y (lgOf lt y)).map V.str))) := e1.trans (.new hRL)
  have hRL2 : upd H1 RL (.lst ((ys.map fun y => rowT y (lgOf lt y)).map V.str)) RL = some (.lst ((ys.map fun y => rowT y (lgOf lt y)).map V.str)) := upd_same
  have NR : N ≠ RL := ne_of_none hN1 hRL
  have hN2 : upd H1 RL (.lst ((ys.map fun y => rowT y (lgOf lt y)).map V.str)) N = some (.dK (kvsOf [])) := by rw [upd_ne NR]; exact hN1
  generalize upd H1 RL (.lst ((ys.map fun y => rowT y (lgOf lt y)).map V.str)) = H2 at e2 hRL2 hN2
  refine ⟨RL, rfl, ⟨_, .inl (.inl hRL2)⟩, ?_⟩
  refine for_list (K := K) (xs := (ys.map fun y => rowT y (lgOf lt y)).map V.str) (fun i σ' G => ∃ (v2 v3 : Option V) (zt : List Row), σ' = [some (.str T), some (.ref N), v2, v3] ∧ Ext Ps H G ∧ G RL = some (.lst ((ys.map fun y => rowT y (lgOf lt y)).map V.str)) ∧ G N = some (.dK (kvsOf zt)) ∧ RowsAt G zt ∧ zt.map (·.1) = ys.take i ∧ (∀ r ∈ zt, r.2.2 = lgOf lt r.1 ∧ H r.2.1 = none) ∧ (zt.map (·.2.1)).Nodup)
    ⟨_, _, [], rfl, e2, hRL2, hN2, fun r hr => absurd hr List.not_mem_nil, rfl, fun r hr => absurd hr List.not_mem_nil, .nil⟩ (fun i σ' G _ ⟨_, _, _, _, _, h, _⟩ => .inl (.inl h)) ?_ ?_
  · rintro i xv σ' G hx ⟨v2, v3, zt, rfl, eG, hRG, hNG, rows, nm, zs, zad⟩
    rw [List.getElem?_map, List.getElem?_map] at hx
    cases hy : ys[i]? with
    | none => rw [hy] at hx; cases hx
    | some y =>
    rw [hy] at hx
    have hx : some (V.str (rowT y (lgOf lt y))) = some xv := hx
    cases hx
    have il := at_lt hy
    have ym := List.mem_of_getElem? hy
    obtain ⟨r, hr, er, el⟩ := ok.of pm ym
    have ny : NameOk y := er ▸ ok.names r hr
    have rl := rows_len ok pm y ym
    have tG := eG.tabs ht
    refine ⟨_, rfl, ⟨_, rfl⟩, _, _, rfl, rfl, by decide +kernel, by rw [sizeLine_eq]; omega, fun W hW => ?_⟩
    rw [el, row_split ny (ok.ents r hr)]
    have s3 : Same G (upd G W (.lst (((y ++ ":") :: r.2.2).map V.str))) := snew hW
    have hW3 : upd G W (.lst (((y ++ ":") :: r.2.2).map V.str)) W = some (.lst (((y ++ ":") :: r.2.2).map V.str)) := upd_same
    generalize upd G W (.lst (((y ++ ":") :: r.2.2).map V.str)) = G3 at s3 hW3
    refine ⟨_, rfl, _, rfl, W, _, rfl, .inl (.inl hW3), fun L hL => ?_⟩
    have ct : cutV (((y ++ ":") :: r.2.2).map V.str) (some 1) none = r.2.2.map V.str := cut_tail _ _
    rw [ct]
    have s4 : Same G3 (upd G3 L (.lst (r.2.2.map V.str))) := snew hL
    have hL4 : upd G3 L (.lst (r.2.2.map V.str)) L = some (.lst (r.2.2.map V.str)) := upd_same
    generalize upd G3 L (.lst (r.2.2.map V.str)) = G4 at s4 hL4
    have s34 : Same G G4 := s3.trans s4
    have hLG : G L = none := s3.free hL
    have hLH : H L = none := eG.none hLG ht
    have l8 := name_len ny
    have lc : (":" : Str).length = 1 := by decide +kernel
    have xz : y ∉ zt.map (·.1) := fun z => by
      rw [nm] at z
      have tk2 : ys.take (i + 1) = ys.take i ++ [y] := by rw [List.take_succ, hy]; rfl
      have nd2 : (ys.take i ++ [y]).Nodup := by rw [← tk2]; exact ydn.sublist (List.take_sublist _ _)
      exact (List.nodup_append.mp nd2).2.2 y z y List.mem_cons_self rfl
    have ll := congrArg List.length nm
    rw [List.length_map, List.length_take] at ll
    refine ⟨_, rfl, _, rfl, W, _, _, _, rfl, rfl, .inl (.inl (s4 _ _ hW3)), atI_nat (j := 0) rfl, _, rfl, _, rfl, y ++ ":", rfl, by rw [len_app, lc, sizeLine_eq]; omega, ?_⟩
    rw [cut_colon]
    refine ⟨N, _, rfl, DPut.k (k := Sum.inr y) (s34 _ _ hNG) (by rw [kvsOf_len, sizeLine_eq]; omega), ?_⟩
    have pk : putK (kvsOf zt) (Sum.inr y) (.ref L) = kvsOf (zt ++ [(y, L, r.2.2)]) := by
      rw [putK_new _ (kvs_none xz), kvsOf, kvsOf, List.map_append]
      rfl
    rw [pk]
    have keep : ∀ {b : Addr} {xs : List V}, G4 b = some (.lst xs) → upd G4 N (.dK (kvsOf (zt ++ [(y, L, r.2.2)]))) b = some (.lst xs) := fun {b xs} e => by
      rw [upd_ne fun z => by rw [z, s34 _ _ hNG] at e; cases e]
      exact e
    refine ⟨_, _, zt ++ [(y, L, r.2.2)], rfl, (eG.trans (Ext.same s34)).put hN nN, keep (s34 _ _ hRG), upd_same, fun q hq => ?_, ?_, fun q hq => ?_, ?_⟩
    · rcases List.mem_append.mp hq with z | z
      · exact keep (s34 _ _ (rows q z))
      · rw [List.mem_singleton.mp z]
        exact keep hL4
    · rw [List.map_append, nm, List.take_succ, hy]
      rfl
    · rcases List.mem_append.mp hq with z | z
      · exact zs q z
      · rw [List.mem_singleton.mp z]
        exact ⟨el.symm, hLH⟩
    · rw [List.map_append]
      refine List.nodup_append.mpr ⟨zad, by simp, fun a ha b hb e => ?_⟩
      obtain ⟨q, hq, eq⟩ := List.mem_map.mp ha
      have := rows q hq
      rw [eq, e, List.mem_singleton.mp hb] at this
      rw [this] at hLG
      cases hLG
  · rintro σ' G ⟨v2, v3, zt, rfl, eG, hRG, hNG, rows, nm, zs, zad⟩
    rw [List.length_map, List.length_map, List.take_length] at nm
    obtain ⟨nz, eT2⟩ := Tfin zt nm fun r hr => (zs r hr).1
    have tG := eG.tabs ht
    refine ⟨_, rfl, N, zt, rfl, hNG, rows, nz, tG, fun G1 e3 => ⟨true, rfl, iteF ?_⟩⟩
    have hN3 := e3.get tG hNG fun _ z => HO.noConfusion z
    have t3 := e3.tabs tG
    have rows3 := e3.rows tG rows
    refine ⟨_, rfl, N, zt, rfl, hN3, rows3, nz, t3, fun G2 ys2 e4 pm2 so2 => ?_⟩
    have ey : ys2 = ys := sorted_eq so2 (pm2.symm.nodup nz.nd) sos ydn fun k => by rw [pm2.mem_iff, nm]
    rw [ey, eT2]
    refine ⟨_, rfl, rfl, _, rfl, iteNS rfl ?_⟩
    exact ⟨_, rfl, hQ G2 N zt (eG.trans (e3.trans e4)) hN (e4.get t3 hN3 fun _ z => HO.noConfusion z) (e4.rows t3 rows3) nm zs zad⟩
end
end A8
set_option Elab.async false
set_option linter.all false
set_option maxRecDepth 100000
set_option maxHeartbeats 8000000
namespace A8
open PySem PySem.Spec PyProof.Rows L2 AL
open GxR (TabB TabG Tabbed)
theorem setRow_kv {zs : List Row} {x : Str} {S : Addr} {ws : List Str} {v : V} (h : valV (kvsOf zs) (Sum.inr x) = some v) : putK (kvsOf zs) (Sum.inr x) (.ref S) = kvsOf (setRow zs x S ws) := by
  unfold putK
  rw [valV_any, h, if_pos (show (some v).isSome = true from rfl)]
  unfold kvsOf setRow
  rw [List.map_map, List.map_map]
  refine List.map_congr_left fun r _ => ?_
  show (if (Sum.inr r.1 : Key) = Sum.inr x then ((Sum.inr r.1 : Key), V.ref S) else (Sum.inr r.1, V.ref r.2.1)) = (Sum.inr (if r.1 = x then (x, S, ws) else r).1, V.ref (if r.1 = x then (x, S, ws) else r).2.1)
  by_cases e : r.1 = x
  · rw [if_pos (by rw [e]), if_pos e, e]
  · rw [if_neg (fun z => e (Sum.inr.inj z)), if_neg e]
theorem setRow_last {zs : List Row} {x : Str} {L S : Addr} {xs ws : List Str} (h : x ∉ zs.map (·.1)) : setRow (zs ++ [(x, L, xs)]) x S ws = zs ++ [(x, S, ws)] := by
  unfold setRow
  rw [List.map_append]
  have e1 : (zs.map fun r => if r.1 = x then (x, S, ws) else r) = zs := by
    refine (List.map_congr_left fun r hr => if_neg fun z => h (List.mem_map.mpr ⟨r, hr, z⟩)).trans (List.map_id' zs)
  rw [e1]
  refine congrArg _ ?_
  show [if x = x then (x, S, ws) else _] = _
  rw [if_pos rfl]
theorem put_last {zs : List Row} {x : Str} {L S : Addr} {xs ws : List Str} (h : x ∉ zs.map (·.1)) : putK (kvsOf (zs ++ [(x, L, xs)])) (Sum.inr x) (.ref S) = kvsOf (zs ++ [(x, S, ws)]) := by
  have v : ∃ v, valV (kvsOf (zs ++ [(x, L, xs)])) (Sum.inr x) = some v := by
    cases q : valV (kvsOf (zs ++ [(x, L, xs)])) (Sum.inr x) with
    | some v => exact ⟨v, rfl⟩
    | none =>
      have := kvs_in (t := zs ++ [(x, L, xs)]) (r := (x, L, xs)) (List.mem_append_right _ List.mem_cons_self)
      rw [q] at this
      cases this
  obtain ⟨v, hv⟩ := v
  rw [setRow_kv (ws := ws) hv, setRow_last h]
where kvs_in : ∀ {t : List Row} {r : Row}, r ∈ t → (valV (kvsOf t) (Sum.inr r.1)).isSome = true
  | a :: t, r, h => by
    by_cases e : a.1 = r.1
    · rw [show valV (kvsOf (a :: t)) (Sum.inr r.1) = some (.ref a.2.1) from valV_pos (p := ((Sum.inr a.1 : Key), V.ref a.2.1)) (by rw [e])]
      rfl
    · rcases List.mem_cons.mp h with w | w
      · exact (e (by rw [w])).elim
      · rw [show valV (kvsOf (a :: t)) (Sum.inr r.1) = valV (kvsOf t) (Sum.inr r.1) from valV_neg (p := ((Sum.inr a.1 : Key), V.ref a.2.1)) fun z => e (Sum.inr.inj z)]
        exact kvs_in w
theorem kp_free {p q : Addr} {H H1 : Hp} {n : Nat} (k : Kp p H H1) (hP : PotAt H1 p n) (h : H1 q = none) : H q = none := k.free h (hP.ne h)
theorem mm_ok : NameOk "mm" := nameB_ok (by decide +kernel)
abbrev sLogs : Stmt := top 23
abbrev nLogs : List Str := ["source", "most", "long", "names", "found", "name", "many", "turn", "other"]
theorem scLogs : FnScope nLogs ["source", "most", "long"] (defScope sLogs) := ⟨rfl, rfl, rfl, by decide +kernel, rfl, by decide +kernel, by decide +kernel⟩
def spLogs : Sp := fun vs H Q _ => ∃ (p : Addr) (m l n : Nat), vs = [.ref p, .int m, .int l] ∧ PotAt H p n ∧ n + 30000 < 2 ^ 40 ∧ 1 ≤ m ∧ m ≤ 40 ∧ l ≤ 400 ∧
  ∀ (H' : Hp) (d : Addr) (lt : List Row), Kp p H H' → H d = none → H' d = some (.dK (kvsOf lt)) → RowsAt H' lt → Named lt → (∀ r ∈ lt, H r.2.1 = none) → (lt.map (·.2.1)).Nodup → PotAt H' p (n + 30000) → Q (.ref d) H'
abbrev sLogsText : Stmt := top 24
abbrev nLogsText : List Str := ["logs", "node"]
theorem scLogsText : FnScope nLogsText ["logs"] (defScope sLogsText) := ⟨rfl, rfl, rfl, by decide +kernel, rfl, by decide +kernel, by decide +kernel⟩
def spLogsText : Sp := fun vs H Q _ => ∃ (d : Addr) (lt : List Row), vs = [.ref d] ∧ H d = some (.dK (kvsOf lt)) ∧ RowsAt H lt ∧ Named lt ∧ ∀ H' (ys : List Str), Same H H' → ys.Perm (lt.map (·.1)) → sortedS ys = true → Q (.str (logsT lt ys)) H'
section
variable {P : Program} {w : World} {K : PySem.W.Frag} {mg : Str → Option Value} {base : Heap} {f c p1 : Addr} {fd : FuncData} {Ps : List Addr}
theorem ok_logsText (F : FunD K "_law_logs_text" "_law_logs_text" (defArgs sLogsText) (defBody sLogsText) (defScope sLogsText) [] [] f fd) (gS : mg "sorted" = none) : FnOk P w K mg base CX0 1 f fd ["logs"] spLogsText := by
  refine F.ok scLogsText (fun vs H Q E h => ?_) ?_
  · obtain ⟨d, t, rfl, _⟩ := h
    rfl
  intro cdv A outer s H vs Q E hr h
  refine ⟨_, PSs.nox (pss_one (ps_ret (pe_join pe_str (pe_lc (own := [("node", 1)]) (g := gName 1) (tt := tYes) (te := tM1 (rJoin K) (tC (.str " ")) (tOp rCat (tLst (tCons (tOp rCatS (tVar 1) (tC (.str ":"))) tNil)) (tDGet (tVar 0) (tVar 1)))) rfl scLogsText.nd (pi_list (pe_callB (call_sortedD rfl) rfl gS (by decide +kernel) (pa_cons (pv 0) pa_nil))) (blkOk_by (N := nLogsText) (sc := defScope sLogsText) (by decide +kernel))
      (fun _ _ _ _ _ => pg_name (i := 1) scLogsText.nd rfl (Or.inl rfl)) (fun _ _ _ _ _ => pts_nil) (fun _ _ _ _ _ => pe_join pe_str (pe_op op_cat (pe_lst (pa_cons (pe_op op_add_str (pv 1) pe_str) pa_nil)) (pe_dget (hu_of hr) (pv 0) (pv 1) (fun _ _ => rfl)))))))), ?_⟩
  obtain ⟨d, t, rfl, hd, hR, ok, hQ⟩ := h
  have n40 := ok.n40
  refine ⟨⟨_, rfl⟩, _, rfl, d, kvsOf t, t.map (·.1), rfl, .inl hd, by unfold kvsOf; rw [List.map_map, List.map_map]; rfl, by rw [List.length_map]; omega, fun ys so pm sos hs0 => ?_⟩
  have s2 : Same H (upd H so (.lst (ys.map V.str))) := snew hs0
  have hso2 : upd H so (.lst (ys.map V.str)) so = some (.lst (ys.map V.str)) := upd_same
  generalize upd H so (.lst (ys.map V.str)) = H2 at s2 hso2
  have yl := pm.length_eq
  rw [List.length_map] at yl
  refine ⟨so, rfl, ⟨_, .inl (.inl hso2)⟩, fun D hD => ?_⟩
  refine lc_list (K := K) (xs := ys.map V.str) (fun i G => Same H2 G ∧ G D = some (.lst (((ys.take i).map fun y => rowT y (lgOf t y)).map V.str))) ⟨snew hD, upd_same⟩ (fun i G _ e => .inl (.inl (e.1 _ _ hso2))) ?_ ?_
  · rintro i x G hx ⟨eG, hDG⟩
    rw [List.getElem?_map] at hx
    cases hy : ys[i]? with
    | none => rw [hy] at hx; cases hx
    | some y =>
    rw [hy] at hx
    cases hx
    have il := at_lt hy
    obtain ⟨r, hr, er, el⟩ := ok.of pm (List.mem_of_getElem? hy)
    have dG := eG _ _ (s2 _ _ hd)
    have rG := eG _ _ (s2 _ _ (hR r hr))
    have ny : NameOk y := er ▸ ok.names r hr
    have l8 := name_len ny
    have l4 := ok.l400 r hr
    have lc : (":" : Str).length = 1 := by decide +kernel
    refine ⟨rfl, ⟨_, rfl⟩, _, rfl, _, _, rfl, rfl, by rw [lc, sizeLine_eq]; omega, by show 1 ≤ sizeLine; decide, fun A1 hA1 => ?_⟩
    have s3 : Same G (upd G A1 (.lst [V.str (y ++ ":")])) := snew hA1
    have hA3 : upd G A1 (.lst [V.str (y ++ ":")]) A1 = some (.lst [V.str (y ++ ":")]) := upd_same
    generalize upd G A1 (.lst [V.str (y ++ ":")]) = G3 at s3 hA3
    refine ⟨_, rfl, _, rfl, d, _, rfl, .inl ⟨_, Sum.inr y, .inl (s3 _ _ dG), rfl, by rw [← er]; exact (valV_row hr ok.nd).symm⟩, A1, r.2.1, _, _, rfl, rfl, hA3, s3 _ _ rG, by rw [List.length_map, sizeLine_eq]; show 1 + r.2.2.length ≤ _; omega, fun B hB => ?_⟩
    have hDG3 := s3 _ _ hDG
    have BD : D ≠ B := ne_of_none hDG3 hB
    refine ⟨" ", B, (y ++ ":") :: r.2.2, rfl, rfl, .inl (.inl (.inl upd_same)), ?_, _, by rw [upd_ne BD]; exact hDG3, by rw [List.length_map, List.length_map, List.length_take, sizeLine_eq]; omega, fun b o e => ?_, ?_⟩
    · have h1 := sum_names (k := 9) (ys := (y ++ ":") :: r.2.2) fun z hz => by
        rcases List.mem_cons.mp hz with w | w
        · rw [w, len_app, lc]
          omega
        · have := name_len (ok.ents r hr z w)
          omega
      have lb : (" " : Str).length = 1 := by decide +kernel
      rw [lb]
      rw [List.length_cons] at h1 ⊢
      omega
    · rw [upd_ne (ne_of_none e hD), upd_ne (ne_of_none (s3 _ _ (eG _ _ e)) hB)]
      exact s3 _ _ (eG _ _ e)
    · rw [upd_same, List.take_succ, hy, List.map_append, List.map_append]
      have : rowT y (lgOf t y) = Txt.join " " ((y ++ ":") :: r.2.2) := by rw [el]; rfl
      rw [← this]
      rfl
  rintro G ⟨eG, hDG⟩
  rw [List.length_map, List.take_length] at hDG
  refine ⟨"\n", D, ys.map fun y => rowT y (lgOf t y), rfl, rfl, .inl (.inl (.inl hDG)), ?_, hQ _ ys (s2.trans eG) pm sos⟩
  have h1 := sum_names (k := 4010) (ys := ys.map fun y => rowT y (lgOf t y)) fun z hz => by
    obtain ⟨y, hy, rfl⟩ := List.mem_map.mp hz
    exact rows_len ok pm y hy
  have lb : ("\n" : Str).length = 1 := by decide +kernel
  rw [lb]
  rw [List.length_map] at h1 ⊢
  omega
theorem ok_logs (F : FunD K "_law_logs" "_law_logs" (defArgs sLogs) (defBody sLogs) (defScope sLogs) [] [] f fd) (cP : Cal P w K mg base 1 "_law_pick" spPick) (cN : Cal P w K mg base 2 "_law_names" spNames) (gR : mg "range" = none) (gL : mg "len" = none) : FnOk P w K mg base CX0 3 f fd ["source", "most", "long"] spLogs := by
  refine F.ok scLogs (fun vs H Q E h => ?_) ?_
  · obtain ⟨p, m, l, n, rfl, _⟩ := h
    rfl
  intro cdv A outer s H vs Q E hr h
  refine ⟨_, PSs.nox (pss_cons (ps_set (i := 3) scLogs.nd rfl (Or.inr rfl) (pe_c cN hr (by decide) rfl (pa_cons (pv 0) (pa_cons (pe_op op_add pe_int (pe_c cP hr (by decide) rfl (pa_cons (pv 0) (pa_cons (pv 1) pa_nil)))) pa_nil))))
    (pss_cons (ps_set (i := 4) scLogs.nd rfl (Or.inl rfl) pe_dnewK)
    (pss_cons (ps_for PassesOwn.never rfl (pi_list (pv 3)) (pg_name (i := 5) scLogs.nd rfl (Or.inr rfl))
      (pss_cons (ps_set (i := 6) scLogs.nd rfl (Or.inl rfl) (pe_c cP hr (by decide) rfl (pa_cons (pv 0) (pa_cons (pe_op op_add (pv 2) pe_int) pa_nil))))
      (pss_cons (ps_dput (hu_of hr) (pv 4) (pv 5) (pe_lc (own := [("turn", 7)]) (g := gName 7) (tt := tYes) (te := tOp (rIxL K) (tVar 3) (tCall spPick [] E0 (tCons (tVar 0) (tCons (tCB (rLenQ K) (tCons (tVar 3) tNil)) tNil)))) rfl scLogs.nd (pi_range1 rfl gR (pa_cons (pv 6) pa_nil)) (blkOk_by (N := nLogs) (sc := defScope sLogs) (by decide +kernel))
          (fun _ _ _ _ _ => pg_name (i := 7) scLogs.nd rfl (Or.inl rfl)) (fun _ _ _ _ _ => pts_nil) (fun _ _ _ _ _ => pe_ix ix_list (pv 3) (pe_c cP hr (by decide) rfl (pa_cons (pv 0) (pa_cons (pe_callB call_len_seq rfl gL boot_len (pa_cons (pv 3) pa_nil)) pa_nil))) (fun _ _ => rfl))) rfl)
      (pss_one (ps_if (pt_cmpR op_gt (pv 6) pe_int (nomark _))
        (pss_one (ps_dput (hu_of hr) (pv 4) (pv 5) (pe_lc (own := [("other", 8)]) (g := gName 8) (tt := tYes) (te := tIf (tTest (tOp rEq (tVar 8) (tVar 5))) (tC (.str "mm")) (tVar 8)) rfl scLogs.nd (pi_list (pe_dget (hu_of hr) (pv 4) (pv 5) (fun _ _ => rfl))) (blkOk_by (N := nLogs) (sc := defScope sLogs) (by decide +kernel))
          (fun _ _ _ _ _ => pg_name (i := 8) scLogs.nd rfl (Or.inl rfl)) (fun _ _ _ _ _ => pts_nil) (fun _ _ _ _ _ => pe_ifExp (pt_cmpR op_eq (pv 8) (pv 5) (nomark _)) pe_str (pv 8))) rfl)) pss_nil)))))
    (pss_one (ps_ret (pv 4)))))), ?_⟩
  obtain ⟨p, m, l, n, rfl, hP, hn, m1, m40, l400, hQ⟩ := h
  refine ⟨_, rfl, _, rfl, _, rfl, p, (m : Int), n, rfl, hP, by omega, by omega, by omega, fun H1 j hP1 only1 j0 j1 => ?_⟩
  obtain ⟨jn, rfl⟩ : ∃ jn : Nat, j = jn := ⟨j.toNat, (Int.toNat_of_nonneg j0).symm⟩
  refine ⟨_, _, rfl, rfl, p, 1 + jn, n + 1, by show [V.ref p, V.int (1 + (jn : Int))] = _; rw [show (1 : Int) + (jn : Int) = ((1 + jn : Nat) : Int) by omega], hP1, by omega, by omega, fun H2 NS ys rest k2 hNS0 hNS hP2 pmY yl => ?_⟩
  have k02 : Kp p H H2 := (Kp.of only1).trans k2
  have ynd : ys.Nodup := (List.nodup_append.mp (pmY.symm.nodup pool_nd)).1
  have yok : ∀ y ∈ ys, NameOk y := fun y hy => pool_ok y (pmY.subset (List.mem_append_left _ hy))
  have NSp : NS ≠ p := hP2.ne' hNS names_ne_pot
  refine fun N hN => ?_
  have HN : H N = none := kp_free k02 hP2 hN
  have Np : N ≠ p := hP2.ne hN
  have k3 : Kp p H (upd H2 N (.dK [])) := k02.put HN
  have hP3 := hP2.upd (o := .dK []) (Ne.symm Np)
  have hNS3 : upd H2 N (.dK []) NS = some (.lst (ys.map V.str)) := by rw [upd_ne fun z => by rw [z, hN] at hNS; cases hNS]; exact hNS
  have hN3 : upd H2 N (.dK []) N = some (.dK (kvsOf [])) := upd_same
  generalize upd H2 N (.dK []) = H3 at k3 hP3 hNS3 hN3
  refine ⟨_, rfl, NS, rfl, ⟨_, .inl (.inl hNS3)⟩, ?_⟩
  refine for_list (K := K) (xs := ys.map V.str) (fun i σ' G => ∃ (v5 v6 v7 v8 : Option V) (zt : List Row), σ' = [some (.ref p), some (.int m), some (.int l), some (.ref NS), some (.ref N), v5, v6, v7, v8] ∧ Kp p H G ∧ PotAt G p (n + 42 + 402 * i) ∧ G NS = some (.lst (ys.map V.str)) ∧ G N = some (.dK (kvsOf zt)) ∧ RowsAt G zt ∧
    zt.map (·.1) = ys.take i ∧ (∀ r ∈ zt, (∀ y ∈ r.2.2, NameOk y) ∧ r.2.2.length ≤ 400 ∧ H r.2.1 = none) ∧ (zt.map (·.2.1)).Nodup)
    ⟨_, _, _, _, [], rfl, k3, hP3.mono (by omega), hNS3, hN3, fun r hr => absurd hr List.not_mem_nil, rfl, fun r hr => absurd hr List.not_mem_nil, .nil⟩ (fun i σ' G _ ⟨_, _, _, _, _, _, _, _, e, _⟩ => .inl (.inl e)) ?_ ?_
  · rintro i xv σ' G hx ⟨v5, v6, v7, v8, zt, rfl, kG, hPG, hNSG, hNG, rows, nm, zs, zad⟩
    rw [List.getElem?_map] at hx
    cases hy : ys[i]? with
    | none => rw [hy] at hx; cases hx
    | some y =>
    rw [hy] at hx
    cases hx
    have il := at_lt hy
    have ym := List.mem_of_getElem? hy
    have xz : y ∉ zt.map (·.1) := fun z => by
      rw [nm] at z
      have tk2 : ys.take (i + 1) = ys.take i ++ [y] := by rw [List.take_succ, hy]; rfl
      have nd2 : (ys.take i ++ [y]).Nodup := by rw [← tk2]; exact ynd.sublist (List.take_sublist _ _)
      exact (List.nodup_append.mp nd2).2.2 y z y List.mem_cons_self rfl
    have ll := congrArg List.length nm
    rw [List.length_map, List.length_take] at ll
    refine ⟨_, rfl, _, rfl, _, _, rfl, rfl, p, (l : Int) + 1, _, rfl, hPG, by omega, by omega, by omega, fun G1 jj hP1 only1 jj0 jj1 => ?_⟩
    have k1 : Kp p G G1 := Kp.of only1
    have hNS1 := k1 _ _ NSp hNSG
    have hN1 := k1 _ _ Np hNG
    refine ⟨_, rfl, _, rfl, by omega, by omega, fun D hD => ?_⟩
    have Dp : D ≠ p := hP1.ne hD
    have GD : G D = none := kp_free k1 hP1 hD
    have HD : H D = none := kp_free kG hPG GD
    refine lc_range (lo := 0) (n := jj.toNat) (fun k G' => ∃ xs : List Str, Kp p G1 G' ∧ PotAt G' p (n + 42 + 402 * i + 1 + k) ∧ G' D = some (.lst (xs.map V.str)) ∧ xs.length = k ∧ ∀ x ∈ xs, x ∈ ys)
      ⟨[], Kp.new hD, (hP1.upd (Ne.symm Dp)).mono (by omega), upd_same, rfl, fun x hx => absurd hx List.not_mem_nil⟩ ?_ ?_
    · rintro k G' hk ⟨xs, kk, hP', hD', xl, xin⟩
      have hNS' := kk _ _ NSp hNS1
      refine ⟨rfl, _, rfl, _, rfl, _, rfl, NS, _, rfl, .inl (.inl (.inl hNS')), p, _, _, rfl, hP', by omega, by rw [List.length_map]; omega, by rw [List.length_map]; omega, fun G2 q hP2 only2 q0 q1 => ?_⟩
      rw [List.length_map] at q1
      obtain ⟨z, hz, mz⟩ := atI_str (xs := ys) q0 q1
      have k2' : Kp p G1 G2 := kk.trans (Kp.of only2)
      have hD2 := (only2 D Dp).trans hD'
      refine ⟨NS, _, _, _, rfl, rfl, .inl (.inl ((only2 NS NSp).trans hNS')), hz, _, hD2, by rw [List.length_map, sizeLine_eq]; omega, xs ++ [z], k2'.put hD, (hP2.upd (Ne.symm Dp)).mono (by omega), by rw [upd_same, List.map_append]; rfl, by rw [List.length_append, xl]; rfl, fun x hx => ?_⟩
      rcases List.mem_append.mp hx with w | w
      · exact xin x w
      · rw [List.mem_singleton.mp w]
        exact mz
    rintro G2 ⟨xs, kk, hP2', hD2, xl, xin⟩
    have hN2 := kk _ _ Np hN1
    refine ⟨_, rfl, _, rfl, N, _, rfl, DPut.k (k := Sum.inr y) hN2 (by rw [kvsOf_len, sizeLine_eq]; omega), ?_⟩
    have pk : putK (kvsOf zt) (Sum.inr y) (.ref D) = kvsOf (zt ++ [(y, D, xs)]) := by
      rw [putK_new _ (kvs_none xz), kvsOf, kvsOf, List.map_append]
      rfl
    rw [pk]
    have kG2 : Kp p G G2 := k1.trans kk
    have kN : ∀ b o, b ≠ N → G2 b = some o → upd G2 N (.dK (kvsOf (zt ++ [(y, D, xs)]))) b = some o := fun b o nb e => by rw [upd_ne nb]; exact e
    have lN : ∀ {b : Addr} {us : List V}, G2 b = some (.lst us) → b ≠ N := fun {b us} e z => by rw [z, hN2] at e; cases e
    have hN4 : upd G2 N (.dK (kvsOf (zt ++ [(y, D, xs)]))) N = some (.dK (kvsOf (zt ++ [(y, D, xs)]))) := upd_same
    have hD4 := kN _ _ (lN hD2) hD2
    have kH4 : Kp p H (upd G2 N (.dK (kvsOf (zt ++ [(y, D, xs)])))) := (kG.trans kG2).put HN
    have hP4 := hP2'.upd (o := .dK (kvsOf (zt ++ [(y, D, xs)]))) (Ne.symm Np)
    have keep4 : ∀ {b : Addr} {us : List Str}, G b = some (.lst (us.map V.str)) → upd G2 N (.dK (kvsOf (zt ++ [(y, D, xs)]))) b = some (.lst (us.map V.str)) := fun {b us} e => by
      have e2 := kG2 _ _ (hPG.ne' e names_ne_pot) e
      exact kN _ _ (lN e2) e2
    have keepG : ∀ b o, b ≠ p → b ≠ N → G b = some o → upd G2 N (.dK (kvsOf (zt ++ [(y, D, xs)]))) b = some o := fun b o bp bN e => kN b o bN (kG2 b o bp e)
    generalize upd G2 N (.dK (kvsOf (zt ++ [(y, D, xs)]))) = G4 at kH4 hP4 keep4 hN4 hD4 keepG
    have fin : ∀ (G5 : Hp) (S : Addr) (ws : List Str) (v5 v6 v7 v8 : Option V), Kp p H G5 → PotAt G5 p (n + 42 + 402 * (i + 1)) → (∀ {b : Addr} {us : List Str}, G b = some (.lst (us.map V.str)) → G5 b = some (.lst (us.map V.str))) → G5 N = some (.dK (kvsOf (zt ++ [(y, S, ws)]))) → G5 S = some (.lst (ws.map V.str)) → G S = none → ws.length ≤ 400 → (∀ x ∈ ws, NameOk x) →
        ∃ (u5 u6 u7 u8 : Option V) (zt' : List Row), [some (.ref p), some (.int m), some (.int l), some (.ref NS), some (.ref N), v5, v6, v7, v8] = [some (.ref p), some (.int m), some (.int l), some (.ref NS), some (.ref N), u5, u6, u7, u8] ∧ Kp p H G5 ∧ PotAt G5 p (n + 42 + 402 * (i + 1)) ∧ G5 NS = some (.lst (ys.map V.str)) ∧ G5 N = some (.dK (kvsOf zt')) ∧ RowsAt G5 zt' ∧
        zt'.map (·.1) = ys.take (i + 1) ∧ (∀ r ∈ zt', (∀ y ∈ r.2.2, NameOk y) ∧ r.2.2.length ≤ 400 ∧ H r.2.1 = none) ∧ (zt'.map (·.2.1)).Nodup := by
      intro G5 S ws v5 v6 v7 v8 kH hp keep hN5 hS5 S0 wl wn
      refine ⟨_, _, _, _, zt ++ [(y, S, ws)], rfl, kH, hp, keep hNSG, hN5, fun q hq => ?_, ?_, fun q hq => ?_, ?_⟩
      · rcases List.mem_append.mp hq with z | z
        · exact keep (rows q z)
        · rw [List.mem_singleton.mp z]
          exact hS5
      · rw [List.map_append, nm, List.take_succ, hy]
        rfl
      · rcases List.mem_append.mp hq with z | z
        · exact zs q z
        · rw [List.mem_singleton.mp z]
          exact ⟨wn, wl, kp_free kG hPG S0⟩
      · rw [List.map_append]
        refine List.nodup_append.mpr ⟨zad, by simp, fun a ha b hb e => ?_⟩
        obtain ⟨q, hq, eq⟩ := List.mem_map.mp ha
        have := rows q hq
        rw [eq, e, List.mem_singleton.mp hb] at this
        rw [this] at S0
        cases S0
    have xl4 : xs.length ≤ 400 := by omega
    refine ⟨_, rfl, _, _, rfl, rfl, _, rfl, ite2 (fun _ => ?_) (fun _ => ?_)⟩
    · have nd4 : ((zt ++ [(y, D, xs)]).map (·.1)).Nodup := by
        rw [List.map_append, nm]
        have tk2 : ys.take (i + 1) = ys.take i ++ [y] := by rw [List.take_succ, hy]; rfl
        show (ys.take i ++ [y]).Nodup
        rw [← tk2]
        exact ynd.sublist (List.take_sublist _ _)
      refine ⟨_, rfl, _, rfl, N, _, rfl, .inl ⟨_, Sum.inr y, .inl hN4, rfl, (valV_row (r := (y, D, xs)) (List.mem_append_right _ List.mem_cons_self) nd4).symm⟩, D, rfl, ⟨_, .inl (.inl hD4)⟩, fun D2 hD2 => ?_⟩
      have DD : D ≠ D2 := ne_of_none hD4 hD2
      refine lc_list (K := K) (xs := xs.map V.str) (fun k G' => ∃ ws : List Str, G' = upd G4 D2 (.lst (ws.map V.str)) ∧ ws.length = k ∧ ∀ x ∈ ws, NameOk x) ⟨[], rfl, rfl, fun x hx => absurd hx List.not_mem_nil⟩ (fun k G' _ ⟨ws, e, _⟩ => by
        rw [e]
        exact .inl (.inl (by rw [upd_ne DD]; exact hD4))) ?_ ?_
      · rintro k x G' hx ⟨ws, rfl, wl, wn⟩
        rw [List.getElem?_map] at hx
        cases hz : xs[k]? with
        | none => rw [hz] at hx; cases hx
        | some z =>
        rw [hz] at hx
        cases hx
        have kl := at_lt hz
        have zok := yok z (xin z (List.mem_of_getElem? hz))
        have go : ∀ u : Str, NameOk u → ∃ acc, upd G4 D2 (.lst (ws.map V.str)) D2 = some (.lst acc) ∧ acc.length < sizeLine ∧ ∃ ws' : List Str, upd (upd G4 D2 (.lst (ws.map V.str))) D2 (.lst (acc ++ [V.str u])) = upd G4 D2 (.lst (ws'.map V.str)) ∧ ws'.length = k + 1 ∧ ∀ x ∈ ws', NameOk x := fun u hu => by
          refine ⟨_, upd_same, by rw [List.length_map, sizeLine_eq]; omega, ws ++ [u], by rw [upd_upd, List.map_append]; rfl, by rw [List.length_append, wl]; rfl, fun x hx => ?_⟩
          rcases List.mem_append.mp hx with w | w
          · exact wn x w
          · rw [List.mem_singleton.mp w]
            exact hu
        exact ⟨rfl, _, rfl, _, rfl, rfl, _, rfl, ite2 (fun _ => go _ mm_ok) (fun _ => ⟨_, rfl, go _ zok⟩)⟩
      rintro G5 ⟨ws, rfl, wl, wn⟩
      rw [List.length_map] at wl
      have s5 : Same G4 (upd G4 D2 (.lst (ws.map V.str))) := snew hD2
      have hD5 : upd G4 D2 (.lst (ws.map V.str)) D2 = some (.lst (ws.map V.str)) := upd_same
      have D2p : D2 ≠ p := hP4.ne hD2
      have hP5 := hP4.upd (o := .lst (ws.map V.str)) (Ne.symm D2p)
      generalize upd G4 D2 (.lst (ws.map V.str)) = G5 at s5 hD5 hP5
      have hN5 := s5 _ _ hN4
      refine ⟨_, rfl, _, rfl, N, _, rfl, DPut.k (k := Sum.inr y) hN5 (by rw [kvsOf_len, List.length_append, sizeLine_eq]; show zt.length + 1 < _; omega), ?_⟩
      rw [put_last (ws := ws) xz]
      have kN5 : ∀ {b : Addr} {us : List Str}, G5 b = some (.lst (us.map V.str)) → upd G5 N (.dK (kvsOf (zt ++ [(y, D2, ws)]))) b = some (.lst (us.map V.str)) := fun {b us} e => by
        rw [upd_ne fun z => by rw [z, hN5] at e; cases e]
        exact e
      refine fin _ D2 ws _ _ _ _ ((kH4.trans (Kp.same s5)).put HN) ((hP5.upd (Ne.symm Np)).mono (by omega)) (fun e => kN5 (s5 _ _ (keep4 e))) upd_same (kN5 hD5) ?_ (by omega) wn
      cases z : G D2 with
      | none => rfl
      | some o =>
        by_cases e : D2 = N
        · rw [e, hN4] at hD2
          cases hD2
        · rw [keepG D2 o D2p e z] at hD2
          cases hD2
    · exact fin G4 D xs _ _ _ _ kH4 (hP4.mono (by omega)) keep4 hN4 hD4 GD xl4 fun x hx => yok x (xin x hx)
  · rintro σ' G ⟨v5, v6, v7, v8, zt, rfl, kG, hPG, hNSG, hNG, rows, nm, zs, zad⟩
    rw [List.length_map, List.take_length] at nm
    have zl := congrArg List.length nm
    rw [List.length_map] at zl
    refine ⟨_, rfl, hQ G N zt kG HN hNG rows ⟨by omega, by omega, by rw [nm]; exact ynd, fun r hr => ?_, fun r hr => (zs r hr).1, fun r hr => (zs r hr).2.1⟩ (fun r hr => (zs r hr).2.2) zad (hPG.mono (by rw [List.length_map]; omega))⟩
    exact yok r.1 (by rw [← nm]; exact List.mem_map.mpr ⟨r, hr, rfl⟩)
end
end A8
set_option Elab.async false
set_option linter.all false
set_option maxRecDepth 100000
set_option maxHeartbeats 8000000
namespace A8
open PySem PySem.Spec PyProof.Rows L2 AL
open GxR (TabB TabG Tabbed)
theorem Named.sm {t : List Row} (ok : Named t) : Sm (trD t) 2 200000 := sm_rows (m := 400) ok.n40 ok.names ok.ents ok.l400 (by decide)
theorem trD_same {t zt dt : List Row} {ys : List Str} (ok : Named t) (pm : ys.Perm (t.map (·.1))) (nz : zt.map (·.1) = ys) (vz : ∀ r ∈ zt, r.2.2 = lgOf t r.1) : trD zt = .dict (ys.map fun y => (.str y, .list ((lgOf t y).map .str))) := by
  unfold trD
  rw [← nz, List.map_map]
  refine congrArg _ (List.map_congr_left fun r hr => ?_)
  show (PyData.str r.1, PyData.list (r.2.2.map .str)) = (PyData.str r.1, PyData.list ((lgOf t r.1).map .str))
  rw [vz r hr]
abbrev sLineR : Stmt := top 25
abbrev nLineR : List Str := ["line", "kept", "text", "again", "told"]
theorem scLineR : FnScope nLineR ["line"] (defScope sLineR) := ⟨rfl, rfl, rfl, by decide +kernel, rfl, by decide +kernel, by decide +kernel⟩
def spLineR (Ps : List Addr) : Sp := fun vs H Q _ => ∃ (l : Addr) (xs : List Str), vs = [.ref l] ∧ H l = some (.lst (xs.map V.str)) ∧ 1 ≤ xs.length ∧ xs.length ≤ 400 ∧ (∀ y ∈ xs, NameOk y) ∧ Tabs Ps H ∧ ∀ H', Ext Ps H H' → Q (.bl true) H'
abbrev sBothR : Stmt := top 26
abbrev nBothR : List Str := ["logs", "kept", "text", "due", "node", "again", "told"]
theorem scBothR : FnScope nBothR ["logs"] (defScope sBothR) := ⟨rfl, rfl, rfl, by decide +kernel, rfl, by decide +kernel, by decide +kernel⟩
def spBothR (Ps : List Addr) : Sp := fun vs H Q _ => ∃ (d : Addr) (lt : List Row), vs = [.ref d] ∧ H d = some (.dK (kvsOf lt)) ∧ RowsAt H lt ∧ Named lt ∧ Tabs Ps H ∧ SysOk H ∧ ∀ H', Ext Ps H H' → Q (.bl true) H'
section
variable {P : Program} {w : World} {K : PySem.W.Frag} {mg : Str → Option Value} {base : Heap} {f c p1 : Addr} {fd : FuncData} {Ps : List Addr}
theorem ok_lineR (F : FunD K "_law_line_right" "_law_line_right" (defArgs sLineR) (defBody sLineR) (defScope sLineR) [] [] f fd) (cS : Cal P w K mg base 5 "show_line" (spShowLine Ps)) (cR : Cal P w K mg base 5 "read_line" (spReadLine Ps)) (gI : mg "isinstance" = none) (gL : mg "list" = none) (gR : mg "range" = none) : FnOk P w K mg base CX0 6 f fd ["line"] (spLineR Ps) := by
  refine F.ok scLineR (fun vs H Q E h => ?_) ?_
  · obtain ⟨l, xs, rfl, _⟩ := h
    rfl
  intro cdv A outer s H vs Q E hr h
  refine ⟨_, PSs.nox (pss_cons (ps_par (i := 1) (j := 2) rfl scLineR.nd rfl rfl (by decide) rfl rfl (pa_cons (pe_callTy call_list_of rfl gL (by decide +kernel) (pa_cons (pv 0) pa_nil)) (pa_cons (pe_join pe_str (pv 0)) pa_nil)) (by rfl))
    (pss_cons (ps_if (PW.pt (pw_or (pt_cmpR op_ne (pe_c cS hr (by decide) rfl (pa_cons (pv 0) pa_nil)) (pv 2) rfl) (pw_or1 (pt_cmpR (op_neD hr.units) (pv 0) (pv 1) (nomark _))))) pss_never pss_nil)
    (pss_cons (ps_for PassesOwn.never rfl (pi_range1 rfl gR (pa_cons pe_int pa_nil)) (pg_name (i := 3) scLineR.nd rfl (Or.inl rfl))
      (pss_cons (ps_set (i := 4) scLineR.nd rfl (Or.inl rfl) (pe_c cR hr (by decide) rfl (pa_cons (pv 2) pa_nil)))
      (pss_cons (ps_if (PW.pt (pw_or (pt_not (pt_val (pe_callB call_isi rfl gI (by decide +kernel) (pa_cons (pv 4) (pa_cons (pe_bltn (u := .type "list") (v := .ty "list") rfl gL (by decide +kernel) rfl) pa_nil))))) (pw_or1 (pt_cmpR (op_neD hr.units) (pv 4) (pv 1) (nomark _))))) pss_never pss_nil)
      (pss_cons (ps_expr (pe_bm0 PySem.F.plainAttrs_list PySem.F.slot_list_reverse PySem.F.type_list_reverse mt_reverse (pv 4)))
      (pss_one (ps_expr (pe_bm PySem.F.plainAttrs_list PySem.F.slot_list_append PySem.F.type_list_append mt_append (pv 4) (pa_cons pe_str pa_nil))))))))
    (pss_one (ps_ret pe_bl))))), ?_⟩
  obtain ⟨l, xs, rfl, hl, x1, x4, hn, ht, hQ⟩ := h
  have asc : SeqAt.shaped (.list (xs.map .str)) = true := shaped_strs fun y hy => (hn y hy).asc
  have eqq : PyData.eqv (.list (xs.map .str)) (.list (xs.map .str)) = true := eqvAll_strs xs
  have lb : (" " : Str).length = 1 := by decide +kernel
  refine ⟨_, rfl, l, _, rfl, .inl (.inl (.inl hl)), fun q hq => ?_⟩
  have e1 : Ext Ps H (upd H q (.lst (xs.map V.str))) := .new hq
  have hq1 : upd H q (.lst (xs.map V.str)) q = some (.lst (xs.map V.str)) := upd_same
  generalize upd H q (.lst (xs.map V.str)) = H1 at e1 hq1
  have hl1 := e1.get ht hl fun _ z => HO.noConfusion z
  have t1 := e1.tabs ht
  refine ⟨⟨_, rfl⟩, _, rfl, " ", l, xs, rfl, rfl, .inl (.inl (.inl hl1)), ?_, _, _, rfl, ?_⟩
  · have h1 := sum_names (k := 8) fun y hy => name_len (hn y hy)
    rw [lb]
    omega
  obtain ⟨T, eT⟩ : ∃ T, T = Txt.join " " xs := ⟨_, rfl⟩
  rw [← eT]
  refine ⟨_, rfl, l, xs, rfl, hl1, x1, x4, hn, t1, fun H2 e2 => ?_⟩
  rw [← eT]
  have hl2 := e2.get t1 hl1 fun _ z => HO.noConfusion z
  have hq2 := e2.get t1 hq1 fun _ z => HO.noConfusion z
  refine ⟨_, rfl, rfl, _, rfl, iteNS rfl ?_⟩
  refine ⟨_, rfl, _, rfl, .list (xs.map .str), .list (xs.map .str), .lst (.inl (.inl hl2)) (dpAll_strs _), .lst (.inl (.inl hq2)) (dpAll_strs _), asc, asc, _, rfl, ?_⟩
  rw [eqq]
  refine iteF ?_
  have t2 := e2.tabs t1
  have e02 := e1.trans e2
  refine ⟨2, rfl, by decide, by decide, ?_⟩
  refine for_range (lo := 0) (n := 2) (fun i σ' G => ∃ v3 v4, σ' = [some (.ref l), some (.ref q), some (.str T), v3, v4] ∧ Ext Ps H2 G) ⟨_, _, rfl, Ext.refl⟩ ?_ (fun σ' G ⟨_, _, e, z⟩ => by
    subst e
    exact hQ _ (e02.trans z))
  rintro i σ' G hi ⟨v3, v4, rfl, eG⟩
  have tG := eG.tabs t2
  refine ⟨_, rfl, xs, by rw [eT]; rfl, x1, x4, hn, tG, fun G1 u e3 hu0 hu => ?_⟩
  have hq3 := e3.get tG (eG.get t2 hq2 fun _ z => HO.noConfusion z) fun _ z => HO.noConfusion z
  refine ⟨_, rfl, _, _, .type "list", .type "list", true, rfl, .ty "list", .base (.lst hu), kit_ty (by decide +kernel), true, rfl, iteF ?_⟩
  refine ⟨_, rfl, _, rfl, .list (xs.map .str), .list (xs.map .str), .lst (.inl (.inl hu)) (dpAll_strs _), .lst (.inl (.inl hq3)) (dpAll_strs _), asc, asc, _, rfl, ?_⟩
  rw [eqq]
  refine iteF ?_
  have nu : u ∉ Ps := notPs tG hu0
  refine ⟨_, rfl, .inl ⟨rfl, _, .inl (.inl hu)⟩, u, _, rfl, rfl, hu, ?_⟩
  have e4 := e3.put hu0 nu (o := .lst (xs.map V.str).reverse)
  have h4 : upd G1 u (.lst (xs.map V.str).reverse) u = some (.lst (xs.map V.str).reverse) := upd_same
  generalize upd G1 u (.lst (xs.map V.str).reverse) = G2 at e4 h4
  refine ⟨_, rfl, .inl ⟨rfl, _, .inl (.inl h4)⟩, u, _, _, rfl, rfl, h4, by rw [List.length_reverse, List.length_map, sizeLine_eq]; omega, ?_⟩
  exact ⟨_, _, rfl, eG.trans (e4.put hu0 nu)⟩
theorem ok_bothR (F : FunD K "_law_both_right" "_law_both_right" (defArgs sBothR) (defBody sBothR) (defScope sBothR) [] [] f fd) (cT : Cal P w K mg base 1 "_law_logs_text" spLogsText) (cS : Cal P w K mg base 7 "show_logs" (spShowLogs Ps)) (cR : Cal P w K mg base 8 "read_logs" (spReadLogs Ps)) (gD : mg "dict" = none) (gS : mg "sorted" = none) (gR : mg "range" = none) (gE : mg "repr" = none) : FnG P w K mg base CX0 9 f fd ["logs"] (spBothR Ps) := by
  refine funG_ok F scBothR (fun vs H Q E h => ?_) ?_
  · obtain ⟨l, xs, rfl, _⟩ := h
    rfl
  intro cdv A outer s H vs Q E hgd hr h
  refine ⟨_, PSs.nox (pss_cons (ps_par (i := 1) (j := 2) rfl scBothR.nd rfl rfl (by decide) rfl rfl (pa_cons (pe_callB (call_reprD hr hgd) rfl gE (by decide +kernel) (pa_cons (pv 0) pa_nil)) (pa_cons (pe_c cT hr (by decide) rfl (pa_cons (pv 0) pa_nil)) pa_nil)) (by rfl))
    (pss_cons (ps_set (i := 3) scBothR.nd rfl (Or.inr rfl) (pe_callTy (call_dictP rfl) rfl gD (by decide +kernel) (pa_cons (pe_lc (own := [("node", 4)]) (g := gName 4) (tt := tYes) (te := tTup (tCons (tVar 4) (tCons (tDGet (tVar 0) (tVar 4)) tNil))) rfl scBothR.nd (pi_list (pe_callB (call_sortedD rfl) rfl gS (by decide +kernel) (pa_cons (pv 0) pa_nil))) (blkOk_by (N := nBothR) (sc := defScope sBothR) (by decide +kernel))
        (fun _ _ _ _ _ => pg_name (i := 4) scBothR.nd rfl (Or.inl rfl)) (fun _ _ _ _ _ => pts_nil) (fun _ _ _ _ _ => pe_tup (pa_cons (pv 4) (pa_cons (pe_dget (hu_of hr) (pv 0) (pv 4) (fun _ _ => rfl)) pa_nil)))) pa_nil)))
    (pss_cons (ps_if (PW.pt (pw_or (pt_cmpR op_ne (pe_c cS hr (by decide) rfl (pa_cons (pv 0) pa_nil)) (pv 2) rfl) (pw_or1 (pt_cmpR op_ne (pe_callB (call_reprD hr hgd) rfl gE (by decide +kernel) (pa_cons (pv 0) pa_nil)) (pv 1) rfl)))) pss_never pss_nil)
    (pss_cons (ps_for PassesOwn.never rfl (pi_range1 rfl gR (pa_cons pe_int pa_nil)) (pg_name (i := 5) scBothR.nd rfl (Or.inl rfl))
      (pss_cons (ps_set (i := 6) scBothR.nd rfl (Or.inr rfl) (pe_c cR hr (by decide) rfl (pa_cons (pv 2) pa_nil)))
      (pss_cons (ps_if (pt_cmpR op_ne (pe_callB (call_reprD hr hgd) rfl gE (by decide +kernel) (pa_cons (pv 6) pa_nil)) (pe_callB (call_reprD hr hgd) rfl gE (by decide +kernel) (pa_cons (pv 3) pa_nil)) rfl) pss_never pss_nil)
      (pss_cons (ps_for PassesOwn.never rfl (pi_list (pe_callB (call_sortedD rfl) rfl gS (by decide +kernel) (pa_cons (pv 6) pa_nil))) (pg_name (i := 4) scBothR.nd rfl (Or.inl rfl))
        (pss_one (ps_expr (pe_bm PySem.F.plainAttrs_list PySem.F.slot_list_append PySem.F.type_list_append mt_append (pe_dget (hu_of hr) (pv 6) (pv 4) (fun _ _ => rfl)) (pa_cons pe_str pa_nil)))))
      (pss_one (ps_if (pt_cmpR (op_neD hr.units) (pe_lock (pe_lc (own := [("node", 4)]) (g := gName 4) (tt := tTest (tOp (rNeD K) (tDGet (tVar 6) (tVar 4)) (tOp rCat (tDGet (tVar 3) (tVar 4)) (tLst (tCons (tC (.str "odd")) tNil))))) (te := tVar 4) rfl scBothR.nd (pi_keys (pv 3)) (blkOk_by (N := nBothR) (sc := defScope sBothR) (by decide +kernel))
          (fun _ _ _ _ _ => pg_name (i := 4) scBothR.nd rfl (Or.inl rfl)) (fun _ _ _ _ _ => pts_one (pt_cmpR (op_neD hr.units) (pe_dget (hu_of hr) (pv 6) (pv 4) (fun _ _ => rfl)) (pe_op op_cat (pe_dget (hu_of hr) (pv 3) (pv 4) (fun _ _ => rfl)) (pe_lst (pa_cons pe_str pa_nil))) (nomark _))) (fun _ _ _ _ _ => pv 4))) (pe_lst pa_nil) (nomark _)) pss_never pss_nil))))))
    (pss_one (ps_ret (pe_cmpR op_eq (pe_callB (call_reprD hr hgd) rfl gE (by decide +kernel) (pa_cons (pv 0) pa_nil)) (pv 1) (nomark _)))))))), ?_⟩
  obtain ⟨d, t, rfl, hd, hR, ok, ht, hY, hQ⟩ := h
  have n40 := ok.n40
  have sT := ok.sm
  have nmK : ∀ {u : List Row}, (kvsOf u).map (·.1) = (u.map (·.1)).map Sum.inr := fun {u} => by unfold kvsOf; rw [List.map_map, List.map_map]; rfl
  -- kept, text
  refine ⟨_, rfl, d, trD t, rfl, hY, dat_tree hd hR, sT.sh, Nat.le_trans sT.dp (by decide), sT.fits (by decide), ?_⟩
  refine ⟨_, rfl, d, t, rfl, hd, hR, ok, fun H1 ys s1 pm sos => ⟨_, _, rfl, ?_⟩⟩
  have ynd : ys.Nodup := pm.symm.nodup ok.nd
  have eys : ∀ {zs us : List Str}, us.Perm zs → (∀ k, k ∈ zs ↔ k ∈ ys) → zs.Nodup → sortedS us = true → us = ys := fun pm2 e nd so2 => sorted_eq so2 (pm2.symm.nodup nd) sos ynd fun k => by rw [pm2.mem_iff, e]
  have mE : ∀ k, k ∈ t.map (·.1) ↔ k ∈ ys := fun k => by rw [pm.mem_iff]
  have yl := pm.length_eq
  rw [List.length_map] at yl
  obtain ⟨T, eT⟩ : ∃ T, T = logsT t ys := ⟨_, rfl⟩
  dsimp only
  rw [← eT]
  have hd1 := s1 _ _ hd
  -- due
  refine ⟨_, rfl, d, kvsOf t, t.map (·.1), rfl, .inl hd1, nmK, by rw [List.length_map]; omega, fun us so pm2 so2 hs0 => ?_⟩
  rw [eys pm2 mE ok.nd so2]
  have s2 : Same H1 (upd H1 so (.lst (ys.map V.str))) := snew hs0
  have hso2 : upd H1 so (.lst (ys.map V.str)) so = some (.lst (ys.map V.str)) := upd_same
  generalize upd H1 so (.lst (ys.map V.str)) = H2 at s2 hso2
  have s02 : Same H H2 := s1.trans s2
  have hd2 := s02 _ _ hd
  refine ⟨so, rfl, ⟨_, .inl (.inl hso2)⟩, fun D hD => ?_⟩
  refine lc_list (K := K) (xs := ys.map V.str) (fun i G => ∃ (dt : List Row) (tps : List Addr), Same H2 G ∧ G D = some (.lst (tps.map V.ref)) ∧ dt.map (·.1) = ys.take i ∧ TupsAt G tps dt ∧ ∀ r ∈ dt, r ∈ t)
    ⟨[], [], snew hD, upd_same, rfl, .nil, fun r hr => absurd hr List.not_mem_nil⟩ (fun i G _ ⟨_, _, sm, _⟩ => .inl (.inl (sm _ _ hso2))) ?_ ?_
  · rintro i x G hx ⟨dt, tps, sm, hd', hnm, htp, hin⟩
    rw [List.getElem?_map] at hx
    cases hy : ys[i]? with
    | none => rw [hy] at hx; cases hx
    | some y =>
      rw [hy] at hx
      cases hx
      have hi := at_lt hy
      obtain ⟨r, hr, er, _⟩ := ok.of pm (List.mem_of_getElem? hy)
      subst er
      have len : tps.length = i := by
        have e := congrArg List.length hnm
        rw [List.length_map, List.length_take] at e
        rw [htp.len]
        omega
      refine ⟨rfl, _, rfl, _, rfl, _, rfl, d, _, rfl, .inl ⟨_, Sum.inr r.1, .inl (sm _ _ hd2), rfl, (valV_row hr ok.nd).symm⟩, by show 2 ≤ sizeLine; decide, fun tp htp0 => ?_⟩
      have Dt : D ≠ tp := ne_of_none hd' htp0
      refine ⟨tps.map V.ref, by rw [upd_ne Dt]; exact hd', by rw [List.length_map, len, sizeLine_eq]; omega, dt ++ [r], tps ++ [tp], fun b o e => ?_, ?_, ?_, ?_, fun r' hr' => ?_⟩
      · rw [upd_ne (ne_of_none e hD), upd_ne (ne_of_none (sm _ _ e) htp0)]
        exact sm _ _ e
      · rw [upd_same, List.map_append]
        rfl
      · rw [List.map_append, hnm, List.take_succ, hy]
        rfl
      · refine TupsAt.snoc (htp.keep fun b xs e => ?_) ?_
        · have z2 : b ≠ D := fun z => by rw [z, hd'] at e; cases e
          rw [upd_ne z2, upd_ne (ne_of_none e htp0)]
          exact e
        · rw [upd_ne (Ne.symm Dt)]
          exact upd_same
      · rcases List.mem_append.mp hr' with z | z
        · exact hin r' z
        · rw [List.mem_singleton.mp z]
          exact hr
  rintro G ⟨dt, tps, sm, hDG, hnm, htp, hin⟩
  rw [List.length_map, List.take_length] at hnm
  have dnd : (dt.map (·.1)).Nodup := by rw [hnm]; exact ynd
  refine ⟨D, tps, kvsOf dt, rfl, .inl (.inl hDG), htp.pairs, fun U hU => ?_⟩
  rw [mergeK_rows0 dnd]
  have s3 : Same H (upd G U (.dK (kvsOf dt))) := (s02.trans sm).trans (snew hU)
  have hU3 : upd G U (.dK (kvsOf dt)) U = some (.dK (kvsOf dt)) := upd_same
  have HU : H U = none := (s02.trans sm).free hU
  generalize upd G U (.dK (kvsOf dt)) = H3 at s3 hU3
  have e3 : Ext Ps H H3 := Ext.same s3
  have t3 := e3.tabs ht
  have hd3 := s3 _ _ hd
  have hR3 : RowsAt H3 t := fun r hr => s3 _ _ (hR r hr)
  have dR3 : RowsAt H3 dt := fun r hr => hR3 r (hin r hr)
  have dl := congrArg List.length hnm
  rw [List.length_map] at dl
  have dlg : ∀ r ∈ dt, r.2.2 = lgOf t r.1 := fun r hr => (lgOf_at ok.nd (hin r hr)).symm
  have dok : Named dt := ⟨by have := ok.n1; omega, by omega, dnd, fun r hr => ok.names r (hin r hr), fun r hr => ok.ents r (hin r hr), fun r hr => ok.l400 r (hin r hr)⟩
  have sD := dok.sm
  -- show_logs, repr
  refine ⟨_, rfl, d, t, rfl, hd3, hR3, ok, t3, fun H4 us4 e4 pm4 so4 => ?_⟩
  rw [eys pm4 mE ok.nd so4, ← eT]
  have e04 := e3.trans e4
  have t4 := e04.tabs ht
  have hd4 := e4.get t3 hd3 fun _ z => HO.noConfusion z
  have hR4 := e4.rows t3 hR3
  have hU4 := e4.get t3 hU3 fun _ z => HO.noConfusion z
  have dR4 := e4.rows t3 dR3
  have Y4 := e04.sys ht hY
  refine ⟨_, rfl, rfl, _, rfl, iteNS rfl ?_⟩
  refine ⟨_, rfl, d, trD t, rfl, Y4, dat_tree hd4 hR4, sT.sh, Nat.le_trans sT.dp (by decide), sT.fits (by decide), _, rfl, rfl, _, rfl, iteNS rfl ?_⟩
  refine ⟨2, rfl, by decide, by decide, ?_⟩
  refine for_range (lo := 0) (n := 2) (fun i σ' G => ∃ v4 v5 v6, σ' = [some (.ref d), some (.str (trD t).shown), some (.str T), some (.ref U), v4, v5, v6] ∧ Ext Ps H4 G) ⟨_, _, _, rfl, Ext.refl⟩ ?_ ?_
  · rintro i σ' G0 hi ⟨v4, v5, v6, rfl, eG⟩
    have tG := eG.tabs t4
    have YG := eG.sys t4 Y4
    have hUG := eG.get t4 hU4 fun _ z => HO.noConfusion z
    have dRG := eG.rows t4 dR4
    -- told
    refine ⟨_, rfl, t, ys, by rw [eT]; rfl, ok, pm, sos, tG, fun G1 q zt e1 hq0 hq zR znm zs zad => ?_⟩
    have znd : (zt.map (·.1)).Nodup := by rw [znm]; exact ynd
    have zl := congrArg List.length znm
    rw [List.length_map] at zl
    have eD : trD zt = trD dt := (trD_same (dt := dt) ok pm znm fun r hr => (zs r hr).1).trans (trD_same (dt := dt) ok pm hnm dlg).symm
    have T1 := e1.tabs tG
    have Y1 := e1.sys tG YG
    have hU1 := e1.get tG hUG fun _ z => HO.noConfusion z
    have dR1 := e1.rows tG dRG
    refine ⟨_, rfl, q, trD zt, rfl, Y1, dat_tree hq zR, by rw [eD]; exact sD.sh, by rw [eD]; exact Nat.le_trans sD.dp (by decide), by rw [eD]; exact sD.fits (by decide), ?_⟩
    refine ⟨_, rfl, U, trD dt, rfl, Y1, dat_tree hU1 dR1, sD.sh, Nat.le_trans sD.dp (by decide), sD.fits (by decide), rfl, _, rfl, iteNS (by rw [eD]) ?_⟩
    -- 'odd'
    refine ⟨_, rfl, q, kvsOf zt, zt.map (·.1), rfl, .inl hq, nmK, by rw [List.length_map]; omega, fun us5 so5 pm5 sos5 hs5 => ?_⟩
    rw [eys pm5 (fun k => by rw [znm]) znd sos5]
    have s2 : Same G1 (upd G1 so5 (.lst (ys.map V.str))) := snew hs5
    have hso5 : upd G1 so5 (.lst (ys.map V.str)) so5 = some (.lst (ys.map V.str)) := upd_same
    generalize upd G1 so5 (.lst (ys.map V.str)) = G2 at s2 hso5
    have e2 : Ext Ps G0 G2 := e1.trans (Ext.same s2)
    have zfree : ∀ r ∈ zt, G0 r.2.1 = none := fun r hr => (zs r hr).2
    have so5z : ∀ r ∈ zt, so5 ≠ r.2.1 := fun r hr z => by
      have := zR r hr
      rw [← z, hs5] at this
      cases this
    refine ⟨so5, rfl, ⟨_, .inl (.inl hso5)⟩, ?_⟩
    refine for_list (K := K) (xs := ys.map V.str) (fun j σ' G => ∃ v4, σ' = [some (.ref d), some (.str (trD t).shown), some (.str T), some (.ref U), v4, some (.int (0 + (i : Int))), some (.ref q)] ∧ Ext Ps G0 G ∧ G so5 = some (.lst (ys.map V.str)) ∧ G q = some (.dK (kvsOf zt)) ∧ ∀ r ∈ zt, G r.2.1 = some (.lst ((if r.1 ∈ ys.take j then r.2.2 ++ [("odd" : Str)] else r.2.2).map V.str)))
      ⟨_, rfl, e2, hso5, s2 _ _ hq, fun r hr => by rw [List.take_zero, if_neg List.not_mem_nil]; exact s2 _ _ (zR r hr)⟩ (fun j σ' G _ ⟨_, _, _, h, _⟩ => .inl (.inl h)) ?_ ?_
    · rintro j xv σ' G hx ⟨v4, rfl, eJ, hsJ, hqJ, zJ⟩
      rw [List.getElem?_map] at hx
      cases hy : ys[j]? with
      | none => rw [hy] at hx; cases hx
      | some y =>
      rw [hy] at hx
      cases hx
      obtain ⟨r, hr, er⟩ := List.mem_map.mp (show y ∈ zt.map (·.1) by rw [znm]; exact List.mem_of_getElem? hy)
      have er : r.1 = y := er
      subst er
      have tk2 : ys.take (j + 1) = ys.take j ++ [r.1] := by rw [List.take_succ, hy]; rfl
      have nin : r.1 ∉ ys.take j := fun z => by
        have nd2 : (ys.take j ++ [r.1]).Nodup := by rw [← tk2]; exact ynd.sublist (List.take_sublist _ _)
        exact (List.nodup_append.mp nd2).2.2 r.1 z r.1 List.mem_cons_self rfl
      have hr1 := zJ r hr
      rw [if_neg nin] at hr1
      have rl : r.2.2.length ≤ 400 := by
        obtain ⟨s0, hs0, es0, el0⟩ := ok.of pm (show r.1 ∈ ys by rw [← znm]; exact List.mem_map.mpr ⟨r, hr, rfl⟩)
        rw [(zs r hr).1, el0]
        exact ok.l400 s0 hs0
      refine ⟨_, rfl, _, rfl, q, _, rfl, .inl ⟨_, Sum.inr r.1, .inl hqJ, rfl, (valV_row hr znd).symm⟩, .inl ⟨rfl, _, .inl (.inl hr1)⟩, r.2.1, _, _, rfl, rfl, hr1, by rw [List.length_map, sizeLine_eq]; omega, ?_⟩
      refine ⟨_, rfl, eJ.put (zfree r hr) (notPs tG (zfree r hr)), ?_, ?_, fun s hs => ?_⟩
      · rw [upd_ne (so5z r hr)]
        exact hsJ
      · rw [upd_ne fun z => by rw [z, hr1] at hqJ; cases hqJ]
        exact hqJ
      · by_cases e : s.1 = r.1
        · have es : s = r := by
            obtain ⟨a, ha, ea⟩ := List.mem_iff_getElem.mp hs
            obtain ⟨b, hb, eb⟩ := List.mem_iff_getElem.mp hr
            have e1 : (zt.map (·.1))[a]'(by rw [List.length_map]; exact ha) = (zt.map (·.1))[b]'(by rw [List.length_map]; exact hb) := by
              rw [List.getElem_map, List.getElem_map, ea, eb, e]
            have ij : a = b := (List.getElem_inj znd).mp e1
            subst ij
            rw [← ea, ← eb]
          rw [es, upd_same, tk2, if_pos (List.mem_append_right _ List.mem_cons_self), List.map_append]
          rfl
        · have na : s.2.1 ≠ r.2.1 := fun z => by
            obtain ⟨a, ha, ea⟩ := List.mem_iff_getElem.mp hs
            obtain ⟨b, hb, eb⟩ := List.mem_iff_getElem.mp hr
            have e1 : (zt.map (·.2.1))[a]'(by rw [List.length_map]; exact ha) = (zt.map (·.2.1))[b]'(by rw [List.length_map]; exact hb) := by
              rw [List.getElem_map, List.getElem_map, ea, eb, z]
            have ij : a = b := (List.getElem_inj zad).mp e1
            subst ij
            exact e (by rw [← ea, ← eb])
          rw [upd_ne na, zJ s hs, tk2]
          have : (s.1 ∈ ys.take j ++ [r.1]) ↔ s.1 ∈ ys.take j := ⟨fun z => (List.mem_append.mp z).elim id fun w => (e (List.mem_singleton.mp w)).elim, List.mem_append_left _⟩
          by_cases c : s.1 ∈ ys.take j
          · rw [if_pos c, if_pos (this.mpr c)]
          · rw [if_neg c, if_neg fun z => c (this.mp z)]
    rintro σ' G ⟨v4, rfl, eJ, hsJ, hqJ, zJ⟩
    rw [List.length_map, List.take_length] at zJ
    have zJ : ∀ r ∈ zt, G r.2.1 = some (.lst ((r.2.2 ++ [("odd" : Str)]).map V.str)) := fun r hr => by
      have := zJ r hr
      rw [if_pos (show r.1 ∈ ys by rw [← znm]; exact List.mem_map.mpr ⟨r, hr, rfl⟩)] at this
      exact this
    have hUJ := eJ.get tG hUG fun _ z => HO.noConfusion z
    have dRJ := eJ.rows tG dRG
    have qU : q ≠ U := fun z => by rw [z, hUG] at hq0; cases hq0
    refine ⟨U, _, hUJ, trivial, fun od => ?_⟩
    have f4 : upd G U (.frz od (.dK (kvsOf dt))) U = some (.frz od (.dK (kvsOf dt))) := upd_same
    have k4 : ∀ {b : Addr} {o : HO}, G b = some o → b ≠ U → upd G U (.frz od (.dK (kvsOf dt))) b = some o := fun e ne => by rw [upd_ne ne]; exact e
    have dd : ∀ {b : Addr} {xs : List V}, G b = some (.lst xs) → b ≠ U := fun {b xs} e z => by
      rw [z, hUJ] at e
      cases e
    obtain ⟨G4, eG4⟩ : ∃ G4, G4 = upd G U (.frz od (.dK (kvsOf dt))) := ⟨_, rfl⟩
    rw [← eG4] at f4 k4
    rw [← eG4]
    refine ⟨_, rfl, U, od, rfl, .inl ⟨kvsOf dt, f4, fun D9 hD9 => ?_⟩⟩
    refine lc_it walk_keys (fun k H' => Same G4 H' ∧ H' D9 = some (.lst [])) ⟨snew hD9, upd_same⟩ (fun k H' _ h => h.1 _ _ f4) ?_ ?_
    · rintro k x H' H'' hk ⟨sm9, hD'⟩ ⟨rfl, kk, vv', hkv, rfl⟩
      obtain ⟨r, hrk, hrt, rfl, rfl⟩ := kvsOf_at hkv
      obtain ⟨z, hz, ez⟩ := List.mem_map.mp (show r.1 ∈ zt.map (·.1) by rw [znm, ← hnm]; exact List.mem_map.mpr ⟨r, hrt, rfl⟩)
      have ez : z.1 = r.1 := ez
      have elz : z.2.2 = r.2.2 := by rw [(zs z hz).1, dlg r hrt, ez]
      have h1 := sm9 _ _ (k4 (zJ z hz) (dd (zJ z hz)))
      have h2 := sm9 _ _ (k4 (dRJ r hrt) (dd (dRJ r hrt)))
      have rl := dok.l400 r hrt
      refine ⟨rfl, _, rfl, _, rfl, q, _, rfl, .inl ⟨_, Sum.inr r.1, .inl (sm9 _ _ (k4 hqJ qU)), rfl, by rw [← ez]; exact (valV_row hz znd).symm⟩, _, rfl, _, rfl, U, _, rfl, .inl ⟨_, Sum.inr r.1, .inr ⟨od, sm9 _ _ f4⟩, rfl, (valV_row hrt dnd).symm⟩, by show 1 ≤ sizeLine; decide, fun L1 hL1 => ?_⟩
      have t1 : Same H'' (upd H'' L1 (.lst [V.str "odd"])) := snew hL1
      have g1 : upd H'' L1 (.lst [V.str "odd"]) L1 = some (.lst [V.str "odd"]) := upd_same
      generalize upd H'' L1 (.lst [V.str "odd"]) = I1 at t1 g1
      refine ⟨r.2.1, L1, _, _, rfl, rfl, t1 _ _ h2, g1, by rw [List.length_map, sizeLine_eq]; show r.2.2.length + 1 ≤ _; omega, fun L2 hL2 => ?_⟩
      have t2 : Same I1 (upd I1 L2 (.lst (r.2.2.map V.str ++ [V.str "odd"]))) := snew hL2
      have g2 : upd I1 L2 (.lst (r.2.2.map V.str ++ [V.str "odd"])) L2 = some (.lst ((r.2.2 ++ [("odd" : Str)]).map V.str)) := by rw [upd_same, List.map_append]; rfl
      generalize upd I1 L2 (.lst (r.2.2.map V.str ++ [V.str "odd"])) = I2 at t2 g2
      have t12 : Same H'' I2 := t1.trans t2
      have h3 := t12 _ _ h1
      rw [elz] at h3
      have sh := shaped_strs (xs := r.2.2 ++ [("odd" : Str)]) fun y hy => by
        rcases List.mem_append.mp hy with w | w
        · exact (dok.ents r hrt y w).asc
        · rw [List.mem_singleton.mp w]
          exact (nameB_ok (x := "odd") (by decide +kernel)).asc
      refine ⟨_, _, .lst (.inl (.inl h3)) (dpAll_strs _), .lst (.inl (.inl g2)) (dpAll_strs _), sh, sh, false, ?_, iteF ⟨sm9.trans t12, t12 _ _ hD'⟩⟩
      show V.bl (!PyData.eqvAll ((r.2.2 ++ [("odd" : Str)]).map PyData.str) ((r.2.2 ++ [("odd" : Str)]).map PyData.str)) = V.bl false
      rw [eqvAll_strs]
      rfl
    · rintro H9 ⟨sm9, hD9'⟩
      refine ⟨sm9 _ _ f4, by show 0 ≤ sizeLine; exact Nat.zero_le _, fun z hz => ?_⟩
      have Dd : D9 ≠ U := fun w => by rw [w, sm9 _ _ f4] at hD9'; cases hD9'
      have zD : D9 ≠ z := fun w => by
        rw [← w, upd_ne Dd, hD9'] at hz
        cases hz
      refine ⟨.list [], .list [], .lst (.inl (.inl ?_)) .nil, .lst (.inl (.inl upd_same)) .nil, rfl, rfl, false, rfl, iteF ?_⟩
      · rw [upd_ne zD, upd_ne Dd]
        exact hD9'
      have e9 : Ext Ps G (upd H9 U (.dK (kvsOf dt))) := by
        refine Ext.unlock (o := od) hUJ (fun _ z => by cases z) ?_
        rw [← eG4]
        exact Ext.same sm9
      exact ⟨_, _, _, rfl, eG.trans (eJ.trans (e9.trans (.new hz)))⟩
  · rintro σ' G ⟨v4, v5, v6, rfl, eG⟩
    have hdG := eG.get t4 hd4 fun _ z => HO.noConfusion z
    have hRG := eG.rows t4 hR4
    refine ⟨_, rfl, d, trD t, rfl, eG.sys t4 Y4, dat_tree hdG hRG, sT.sh, Nat.le_trans sT.dp (by decide), sT.fits (by decide), _, rfl, rfl, ?_⟩
    rw [decide_eq_true rfl]
    exact hQ _ (e04.trans eG)
end
end A8
set_option Elab.async false
set_option linter.all false
set_option maxRecDepth 100000
set_option maxHeartbeats 8000000
namespace A8
open PySem PySem.Spec PyProof.Rows L2 AL
open GxR (TabB TabG Tabbed)
abbrev sLaw : Stmt := top 27
abbrev nLaw : List Str := ["script", "k", "source", "great", "most", "long", "logs", "names", "many", "line", "turn"]
theorem scLaw : FnScope nLaw ["script"] (defScope sLaw) := ⟨rfl, rfl, rfl, by decide +kernel, rfl, by decide +kernel, by decide +kernel⟩
def spLaw (K : PySem.W.Frag) (Ps : List Addr) : Sp := fun vs H Q _ => ∃ (a : Addr) (ns : List Int), vs = [.ref a] ∧ ns.length ≤ 63 ∧ SqL K H a (ns.map V.int) ∧ Tabs Ps H ∧ SysOk H ∧ ∀ H', Q (.bl true) H'
structure Jk (K : PySem.W.Frag) (Ps : List Addr) (a : Addr) (ns : List Int) (H : Hp) : Prop where
  tabs : Tabs Ps H
  sys : SysOk H
  scr : SqL K H a (ns.map V.int)
section
variable {K : PySem.W.Frag} {Ps : List Addr} {a p : Addr} {ns : List Int} {HB H H' : Hp} {n : Nat}
theorem Jk.ext (j : Jk K Ps a ns H) (e : Ext Ps H H') : Jk K Ps a ns H' := by
  refine ⟨e.tabs j.tabs, e.sys j.tabs j.sys, ?_⟩
  rcases j.scr with h | h
  · exact .inl (e.rd j.tabs h fun _ z => by cases z)
  · exact .inr h
theorem Ext.kp' (e : Ext Ps HB H) (hb : HB p = Option.none) (hp : PotAt H p n) (k : Kp p H H') : Ext Ps HB H' where
  kp := fun b o h z => k b o (ne_of_none h hb) (e.kp b o h z)
  tb := fun q hq h => by
    obtain ⟨ps, e1, e2⟩ := e.tb q hq h
    exact ⟨ps, k q _ (hp.ne' e1 fun _ _ _ z => by cases z) e1, e2⟩
theorem PotAt.ext (h : PotAt H p n) (e : Ext Ps H H') (t : Tabs Ps H) : PotAt H' p n := by
  obtain ⟨x, y, z, a, b⟩ := h
  exact ⟨x, y, z, e.get t a (fun _ z => HO.noConfusion z), b⟩
theorem PotAt.same (h : PotAt H p n) (s : Same H H') : PotAt H' p n := by
  obtain ⟨x, y, z, e, r⟩ := h
  exact ⟨x, y, z, s _ _ e, r⟩
end
/-- the logs and the line, made behind HB -/
structure Lg (Ps : List Addr) (HB H : Hp) (d l : Addr) (lt : List Row) (xs : List Str) : Prop where
  e : Ext Ps HB H
  hd : H d = some (.dK (kvsOf lt))
  rows : RowsAt H lt
  n1 : 1 ≤ lt.length
  n40 : lt.length ≤ 40
  nd : (lt.map (·.1)).Nodup
  names : ∀ r ∈ lt, NameOk r.1
  ents : ∀ r ∈ lt, ∀ y ∈ r.2.2, NameOk y
  ad : (lt.map (·.2.1)).Nodup
  free : ∀ r ∈ lt, HB r.2.1 = none
  hl : H l = some (.lst (xs.map V.str))
  lfree : HB l = none
  lne : ∀ r ∈ lt, r.2.1 ≠ l
  x1 : 1 ≤ xs.length
  x4 : xs.length ≤ 400
  xn : ∀ y ∈ xs, NameOk y
def modRow (lt : List Row) (x : Str) (f : List Str → List Str) : List Row := lt.map fun r => if r.1 = x then (r.1, r.2.1, f r.2.2) else r
theorem mod_names (lt : List Row) (x : Str) (f : List Str → List Str) : (modRow lt x f).map (·.1) = lt.map (·.1) := by
  unfold modRow
  rw [List.map_map]
  refine List.map_congr_left fun r _ => ?_
  show (if r.1 = x then (r.1, r.2.1, f r.2.2) else r).1 = r.1
  split <;> rfl
theorem mod_ads (lt : List Row) (x : Str) (f : List Str → List Str) : (modRow lt x f).map (·.2.1) = lt.map (·.2.1) := by
  unfold modRow
  rw [List.map_map]
  refine List.map_congr_left fun r _ => ?_
  show (if r.1 = x then (r.1, r.2.1, f r.2.2) else r).2.1 = r.2.1
  split <;> rfl
theorem mod_kvs (lt : List Row) (x : Str) (f : List Str → List Str) : kvsOf (modRow lt x f) = kvsOf lt := by
  unfold modRow kvsOf
  rw [List.map_map]
  refine List.map_congr_left fun r _ => ?_
  show ((Sum.inr (if r.1 = x then (r.1, r.2.1, f r.2.2) else r).1 : Key), V.ref (if r.1 = x then (r.1, r.2.1, f r.2.2) else r).2.1) = (Sum.inr r.1, V.ref r.2.1)
  split <;> rfl
theorem mem_mod {lt : List Row} {x : Str} {f : List Str → List Str} {q : Row} (h : q ∈ modRow lt x f) : ∃ r ∈ lt, (r.1 = x ∧ q = (r.1, r.2.1, f r.2.2)) ∨ (r.1 ≠ x ∧ q = r) := by
  obtain ⟨r, hr, e⟩ := List.mem_map.mp h
  by_cases c : r.1 = x
  · rw [if_pos c] at e
    exact ⟨r, hr, .inl ⟨c, e.symm⟩⟩
  · rw [if_neg c] at e
    exact ⟨r, hr, .inr ⟨c, e.symm⟩⟩
section
variable {K : PySem.W.Frag} {Ps : List Addr} {HB H H' : Hp} {d l p : Addr} {lt : List Row} {xs ws : List Str} {n m : Nat}
theorem Lg.ext (g : Lg Ps HB H d l lt xs) (tb : Tabs Ps HB) (e : Ext Ps H H') : Lg Ps HB H' d l lt xs :=
  { g with e := g.e.trans e, hd := e.get (g.e.tabs tb) g.hd (fun _ z => HO.noConfusion z), rows := e.rows (g.e.tabs tb) g.rows, hl := e.get (g.e.tabs tb) g.hl (fun _ z => HO.noConfusion z) }
theorem Lg.kp (g : Lg Ps HB H d l lt xs) (hp : HB p = none) (hP : PotAt H p n) (k : Kp p H H') : Lg Ps HB H' d l lt xs :=
  { g with e := g.e.kp' hp hP k, hd := k _ _ (hP.ne' g.hd fun _ _ _ z => HO.noConfusion z) g.hd, rows := fun r hr => k _ _ (hP.ne' (g.rows r hr) names_ne_pot) (g.rows r hr), hl := k _ _ (hP.ne' g.hl names_ne_pot) g.hl }
theorem Lg.line (g : Lg Ps HB H d l lt xs) (tb : Tabs Ps HB) (w1 : 1 ≤ ws.length) (w4 : ws.length ≤ 400) (wn : ∀ y ∈ ws, NameOk y) : Lg Ps HB (upd H l (.lst (ws.map V.str))) d l lt ws :=
  { g with
    e := g.e.put g.lfree (notPs tb g.lfree)
    hd := by rw [upd_ne fun z => by have := g.hl; rw [← z, g.hd] at this; cases this]; exact g.hd
    rows := fun r hr => by rw [upd_ne (g.lne r hr)]; exact g.rows r hr
    hl := upd_same
    x1 := w1
    x4 := w4
    xn := wn }
theorem Lg.row (g : Lg Ps HB H d l lt xs) (tb : Tabs Ps HB) {r : Row} (hr : r ∈ lt) {f : List Str → List Str} (fn : ∀ y ∈ f r.2.2, NameOk y) : Lg Ps HB (upd H r.2.1 (.lst ((f r.2.2).map V.str))) d l (modRow lt r.1 f) xs := by
  have one : ∀ {s : Row}, s ∈ lt → s.1 = r.1 → s = r := fun {s} hs e => by
    obtain ⟨a, ha, ea⟩ := List.mem_iff_getElem.mp hs
    obtain ⟨b, hb, eb⟩ := List.mem_iff_getElem.mp hr
    have e1 : (lt.map (·.1))[a]'(by rw [List.length_map]; exact ha) = (lt.map (·.1))[b]'(by rw [List.length_map]; exact hb) := by
      rw [List.getElem_map, List.getElem_map, ea, eb, e]
    have ij : a = b := (List.getElem_inj g.nd).mp e1
    subst ij
    rw [← ea, ← eb]
  have oneA : ∀ {s : Row}, s ∈ lt → s.2.1 = r.2.1 → s = r := fun {s} hs e => by
    obtain ⟨a, ha, ea⟩ := List.mem_iff_getElem.mp hs
    obtain ⟨b, hb, eb⟩ := List.mem_iff_getElem.mp hr
    have e1 : (lt.map (·.2.1))[a]'(by rw [List.length_map]; exact ha) = (lt.map (·.2.1))[b]'(by rw [List.length_map]; exact hb) := by
      rw [List.getElem_map, List.getElem_map, ea, eb, e]
    have ij : a = b := (List.getElem_inj g.ad).mp e1
    subst ij
    rw [← ea, ← eb]
  have ml : (modRow lt r.1 f).length = lt.length := List.length_map _
  have fr := g.free r hr
  refine ⟨g.e.put fr (notPs tb fr), ?_, fun q hq => ?_, by rw [ml]; exact g.n1, by rw [ml]; exact g.n40, by rw [mod_names]; exact g.nd, fun q hq => ?_, fun q hq => ?_, by rw [mod_ads]; exact g.ad, fun q hq => ?_, ?_, g.lfree, fun q hq => ?_, g.x1, g.x4, g.xn⟩
  · rw [mod_kvs, upd_ne fun z => by have := g.rows r hr; rw [← z, g.hd] at this; cases this]
    exact g.hd
  · obtain ⟨s, hs, ⟨e, rfl⟩ | ⟨e, rfl⟩⟩ := mem_mod hq
    · rw [one hs e]
      exact upd_same
    · rw [upd_ne fun z => e (by rw [oneA hs z])]
      exact g.rows _ hs
  · obtain ⟨s, hs, ⟨e, rfl⟩ | ⟨e, rfl⟩⟩ := mem_mod hq
    · exact g.names s hs
    · exact g.names _ hs
  · obtain ⟨s, hs, ⟨e, rfl⟩ | ⟨e, rfl⟩⟩ := mem_mod hq
    · rw [one hs e]
      exact fn
    · exact g.ents _ hs
  · obtain ⟨s, hs, ⟨e, rfl⟩ | ⟨e, rfl⟩⟩ := mem_mod hq
    · exact g.free s hs
    · exact g.free _ hs
  · rw [upd_ne (Ne.symm (g.lne r hr))]
    exact g.hl
  · obtain ⟨s, hs, ⟨e, rfl⟩ | ⟨e, rfl⟩⟩ := mem_mod hq
    · exact g.lne s hs
    · exact g.lne _ hs
theorem Lg.named (g : Lg Ps HB H d l lt xs) (h : ∀ r ∈ lt, r.2.2.length ≤ 400) : Named lt := ⟨g.n1, g.n40, g.nd, g.names, g.ents, h⟩
end
section
variable {P : Program} {w : World} {K : PySem.W.Frag} {mg : Str → Option Value} {base : Heap} {f fr c p1 : Addr} {fd fdr : FuncData} {Ps : List Addr}
theorem ok_law (F : FunD K "law" "law" (defArgs sLaw) (defBody sLaw) (defScope sLaw) [] [] f fd)
    (cS : Cal P w K mg base 1 "_law_source" (spSrc K)) (cP : Cal P w K mg base 1 "_law_pick" spPick) (cL : Cal P w K mg base 3 "_law_logs" spLogs) (cR : Cal P w K mg base 6 "_law_line_right" (spLineR Ps))
    (fR : FnG P w K mg base CX0 9 fr fdr ["logs"] (spBothR Ps)) (hmR : mg "_law_both_right" = some (.ref fr)) (kR : PySem.W.keepIn K (.ref fr) = true) (bR : Binds K fdr ["logs"] [])
    (gR : mg "range" = none) (gL : mg "len" = none) (gM : mg "max" = none) (gN : mg "min" = none) (gS : mg "sorted" = none) : FnG P w K mg base CX0 10 f fd ["script"] (spLaw K Ps) := by
  refine funG_ok F scLaw (fun vs H Q E h => ?_) ?_
  · obtain ⟨a, ns, rfl, _⟩ := h
    rfl
  intro cdv A outer s H vs Q E hgd hr h
  refine ⟨_, PSs.nox (pss_cons (ps_for PassesOwn.never rfl (pi_range1 rfl gR (pa_cons (pe_callB (call_max2 rfl) rfl gM (by decide +kernel) (pa_cons pe_int (pa_cons (pe_callB (call_min2 rfl) rfl gN (by decide +kernel) (pa_cons pe_int (pa_cons (pe_op op_add (pe_callB call_len_seq rfl gL boot_len (pa_cons (pv 0) pa_nil)) pe_int) pa_nil))) pa_nil))) pa_nil)) (pg_name (i := 1) scLaw.nd rfl (Or.inl rfl))
      (pss_cons (ps_set (i := 2) scLaw.nd rfl (Or.inr rfl) (pe_c cS hr (by decide) rfl (pa_cons (pv 0) (pa_cons (pv 1) pa_nil))))
      (pss_cons (ps_set (i := 3) scLaw.nd rfl (Or.inl rfl) (pe_ix ix_list (pe_lst (pa_cons (pe_tup (pa_cons pe_int (pa_cons pe_int pa_nil))) (pa_cons (pe_tup (pa_cons pe_int (pa_cons pe_int pa_nil))) pa_nil))) (pe_c cP hr (by decide) rfl (pa_cons (pv 2) (pa_cons pe_int pa_nil))) (fun _ _ => rfl)))
      (pss_cons (ps_asg (pe_ix ix_list (pe_lst (pa_cons (pe_tup (pa_cons pe_int (pa_cons pe_int pa_nil))) (pa_cons (pe_tup (pa_cons pe_int (pa_cons pe_int pa_nil))) (pa_cons (pe_tup (pa_cons pe_int (pa_cons pe_int pa_nil))) (pa_cons (pv 3) pa_nil))))) (pe_c cP hr (by decide) rfl (pa_cons (pv 2) (pa_cons pe_int pa_nil))) (fun _ _ => rfl)) (pg_tup rfl (pgs_cons (pg_name (i := 4) scLaw.nd rfl (Or.inl rfl)) (pgs_cons (pg_name (i := 5) scLaw.nd rfl (Or.inl rfl)) pgs_nil))))
      (pss_cons (ps_set (i := 6) scLaw.nd rfl (Or.inl rfl) (pe_c cL hr (by decide) rfl (pa_cons (pv 2) (pa_cons (pv 4) (pa_cons (pv 5) pa_nil)))))
      (pss_cons (ps_set (i := 7) scLaw.nd rfl (Or.inr rfl) (pe_callB (call_sortedD rfl) rfl gS (by decide +kernel) (pa_cons (pv 6) pa_nil)))
      (pss_cons (ps_set (i := 8) scLaw.nd rfl (Or.inl rfl) (pe_ix ix_list (pe_lst (pa_cons pe_int (pa_cons (pe_op op_add pe_int (pe_c cP hr (by decide) rfl (pa_cons (pv 2) (pa_cons pe_int pa_nil)))) (pa_cons pe_int pa_nil)))) (pe_c cP hr (by decide) rfl (pa_cons (pv 2) (pa_cons pe_int pa_nil))) (fun _ _ => rfl)))
      (pss_cons (ps_setLc (i := 9) (own := [("turn", 10)]) (g := gName 10) (tt := tYes) (te := tOp (rIxL K) (tVar 7) (tCall spPick [] E0 (tCons (tVar 2) (tCons (tCB (rLenQ K) (tCons (tVar 7) tNil)) tNil)))) rfl scLaw.nd rfl rfl (sw_true rfl rfl rfl (by decide +kernel)) (pi_range1 rfl gR (pa_cons (pv 8) pa_nil)) (blkOk_by (N := nLaw) (sc := defScope sLaw) (by decide +kernel))
          (fun _ _ _ _ _ => pg_name (i := 10) scLaw.nd rfl (Or.inl rfl)) (fun _ _ _ _ _ => pts_nil) (fun _ _ _ _ _ => pe_ix ix_list (pv 7) (pe_c cP hr (by decide) rfl (pa_cons (pv 2) (pa_cons (pe_callB call_len_seq rfl gL boot_len (pa_cons (pv 7) pa_nil)) pa_nil))) (fun _ _ => rfl)))
      (pss_cons (ps_if (PW.pt (pw_or (pt_not (pt_val (pe_c cR hr (by decide) rfl (pa_cons (pv 9) pa_nil)))) (pw_or1 (pt_not (pt_val (pe_callG fR hgd hr rfl hmR kR bR .nil pass0 (pa_cons (pv 6) pa_nil))))))) pss_never pss_nil)
      (pss_cons (ps_expr (pe_bm0 PySem.F.plainAttrs_list PySem.F.slot_list_reverse PySem.F.type_list_reverse mt_reverse (pv 9)))
      (pss_cons (ps_expr (pe_bm0 PySem.F.plainAttrs_list PySem.F.slot_list_reverse PySem.F.type_list_reverse mt_reverse (pe_dget (hu_of hr) (pv 6) (pe_ix ix_list (pv 7) pe_int (fun _ _ => rfl)) (fun _ _ => rfl))))
      (pss_cons (ps_expr (pe_bm PySem.F.plainAttrs_list PySem.F.slot_list_append PySem.F.type_list_append mt_append (pe_dget (hu_of hr) (pv 6) (pe_ix ix_list (pv 7) (pe_un un_neg pe_int) (fun _ _ => rfl)) (fun _ _ => rfl)) (pa_cons (pe_ix ix_list (pv 7) pe_int (fun _ _ => rfl)) pa_nil)))
      (pss_cons (ps_if (pt_not (pt_val (pe_c cR hr (by decide) rfl (pa_cons (pv 9) pa_nil)))) pss_never pss_nil)
      (pss_one (ps_if (PW.pt (pw_and (pt_cmpR op_lt (pe_callB call_len_seq rfl gL boot_len (pa_cons (pe_dget (hu_of hr) (pv 6) (pe_ix ix_list (pv 7) (pe_un un_neg pe_int) (fun _ _ => rfl)) (fun _ _ => rfl)) pa_nil)) pe_int (nomark _)) (pw_and1 (pt_not (pt_val (pe_callG fR hgd hr rfl hmR kR bR .nil pass0 (pa_cons (pv 6) pa_nil))))))) pss_never pss_nil)))))))))))))))
    (pss_one (ps_ret pe_bl))), ?_⟩
  obtain ⟨a, ns, rfl, hl63, hS, hT, hY, hQ⟩ := h
  obtain ⟨j0, ej0, j01, j08⟩ : ∃ j0 : Int, (if (if (((ns.map V.int).length : Int)) + 1 < 8 then (((ns.map V.int).length : Int)) + 1 else 8) > 1 then (if (((ns.map V.int).length : Int)) + 1 < 8 then (((ns.map V.int).length : Int)) + 1 else 8) else 1) = j0 ∧ 0 ≤ j0 ∧ j0 ≤ 8 := ⟨_, rfl, by split <;> (try split) <;> omega, by split <;> (try split) <;> omega⟩
  refine ⟨_, rfl, a, _, rfl, .inl hS, _, _, rfl, rfl, _, _, rfl, _, _, rfl, _, rfl, ?_⟩
  rw [ej0]
  refine ⟨by omega, by omega, ?_⟩
  refine for_range (lo := 0) (n := j0.toNat) (fun i σ' H' => ∃ v1 v2 v3 v4 v5 v6 v7 v8 v9 v10, σ' = [some (.ref a), v1, v2, v3, v4, v5, v6, v7, v8, v9, v10] ∧ Jk K Ps a ns H') ⟨_, _, _, _, _, _, _, _, _, _, rfl, hT, hY, hS⟩ ?_ (fun σ' H' ⟨_, _, _, _, _, _, _, _, _, _, e, _⟩ => by
    subst e
    exact hQ _)
  rintro i σ' HB hi ⟨v1, v2, v3, v4, v5, v6, v7, v8, v9, v10, rfl, jB⟩
  have hi5 : i < 8 := by omega
  refine ⟨_, rfl, _, rfl, a, ns, i, by rw [Int.zero_add]; rfl, jB.scr, by omega, fun p x y hp0 x0 y0 y1 => ?_⟩
  have hP1 : PotAt (upd HB p (.lst [.int x, .int y, .int 0])) p 0 := ⟨x, y, 0, upd_same, x0, y0, y1, by decide, by decide⟩
  have e1 : Ext Ps HB (upd HB p (.lst [.int x, .int y, .int 0])) := .new hp0
  generalize upd HB p (.lst [.int x, .int y, .int 0]) = H1 at hP1 e1
  dsimp only
  -- great
  refine seq_asg (fun v H' => ∃ (T : Addr) (m l : Nat), v = .ref T ∧ Kp p H1 H' ∧ PotAt H' p 1 ∧ H' T = some (.tup [.int m, .int l]) ∧ 1 ≤ m ∧ m ≤ 40 ∧ l ≤ 400) (fun Q' hQ' => ?_) ?_
  · refine ⟨by show 2 ≤ sizeLine; decide, fun T1 hT1 => ⟨by show 2 ≤ sizeLine; decide, fun T2 hT2 => ⟨by show 2 ≤ sizeLine; decide, fun LL hLL => ?_⟩⟩⟩
    have s3 : Same H1 (upd (upd (upd H1 T1 (.tup [.int 3, .int 400])) T2 (.tup [.int 40, .int 12])) LL (.lst [.ref T1, .ref T2])) := ((snew hT1).trans (snew hT2)).trans (snew hLL)
    have h1 : upd (upd (upd H1 T1 (.tup [.int 3, .int 400])) T2 (.tup [.int 40, .int 12])) LL (.lst [.ref T1, .ref T2]) T1 = some (.tup [.int 3, .int 400]) := snew hLL _ _ (snew hT2 _ _ upd_same)
    have h2 : upd (upd (upd H1 T1 (.tup [.int 3, .int 400])) T2 (.tup [.int 40, .int 12])) LL (.lst [.ref T1, .ref T2]) T2 = some (.tup [.int 40, .int 12]) := snew hLL _ _ upd_same
    have h3 : upd (upd (upd H1 T1 (.tup [.int 3, .int 400])) T2 (.tup [.int 40, .int 12])) LL (.lst [.ref T1, .ref T2]) LL = some (.lst [.ref T1, .ref T2]) := upd_same
    generalize upd (upd (upd H1 T1 (.tup [.int 3, .int 400])) T2 (.tup [.int 40, .int 12])) LL (.lst [.ref T1, .ref T2]) = H3 at s3 h1 h2 h3
    have hP3 := hP1.same s3
    refine ⟨_, rfl, p, 2, 0, rfl, hP3, by omega, by decide, by decide, fun H4 j hP4 only4 jj0 jj1 => ?_⟩
    have k4 : Kp p H3 H4 := Kp.of only4
    have k14 : Kp p H1 H4 := (Kp.same s3).trans k4
    have np : ∀ {b : Addr} {o : HO}, H3 b = some o → (∀ x y z : Int, o ≠ .lst [.int x, .int y, .int z]) → H4 b = some o := fun e n => k4 _ _ (hP3.ne' e n) e
    have w : j = 0 ∨ j = 1 := by omega
    have hL4 := np h3 fun _ _ _ z => by injection z with z; injection z with z; cases z
    rcases w with rfl | rfl
    · exact ⟨LL, _, 0, _, rfl, rfl, .inl (.inl hL4), atI_nat (j := 0) rfl, hQ' _ _ ⟨T1, 3, 400, rfl, k14, hP4, np h1 fun _ _ _ z => HO.noConfusion z, by decide, by decide, by decide⟩⟩
    · exact ⟨LL, _, 1, _, rfl, rfl, .inl (.inl hL4), atI_nat (j := 1) rfl, hQ' _ _ ⟨T2, 40, 12, rfl, k14, hP4, np h2 fun _ _ _ z => HO.noConfusion z, by decide, by decide, by decide⟩⟩
  rintro _ H2 ⟨TG, mg0, lg0, rfl, k2, hP2, hTG, mg1, mg40, lg4⟩
  have e2 := e1.kp' hp0 hP1 k2
  -- most, long
  show tSeq (tAsg _ _) _ _ _ _
  refine seq_asg (fun v H' => ∃ (T : Addr) (m l : Nat), v = .ref T ∧ Kp p H2 H' ∧ PotAt H' p 2 ∧ H' T = some (.tup [.int m, .int l]) ∧ 1 ≤ m ∧ m ≤ 40 ∧ l ≤ 400) (fun Q' hQ' => ?_) ?_
  · refine ⟨by show 2 ≤ sizeLine; decide, fun T1 hT1 => ⟨by show 2 ≤ sizeLine; decide, fun T2 hT2 => ⟨by show 2 ≤ sizeLine; decide, fun T3 hT3 => ⟨_, rfl, by show 4 ≤ sizeLine; decide, fun LL hLL => ?_⟩⟩⟩⟩
    have s3 : Same H2 (upd (upd (upd (upd H2 T1 (.tup [.int 3, .int 4])) T2 (.tup [.int 9, .int 12])) T3 (.tup [.int 9, .int 12])) LL (.lst [.ref T1, .ref T2, .ref T3, .ref TG])) := (((snew hT1).trans (snew hT2)).trans (snew hT3)).trans (snew hLL)
    have h1 : upd (upd (upd (upd H2 T1 (.tup [.int 3, .int 4])) T2 (.tup [.int 9, .int 12])) T3 (.tup [.int 9, .int 12])) LL (.lst [.ref T1, .ref T2, .ref T3, .ref TG]) T1 = some (.tup [.int 3, .int 4]) := snew hLL _ _ (snew hT3 _ _ (snew hT2 _ _ upd_same))
    have h2 : upd (upd (upd (upd H2 T1 (.tup [.int 3, .int 4])) T2 (.tup [.int 9, .int 12])) T3 (.tup [.int 9, .int 12])) LL (.lst [.ref T1, .ref T2, .ref T3, .ref TG]) T2 = some (.tup [.int 9, .int 12]) := snew hLL _ _ (snew hT3 _ _ upd_same)
    have h3 : upd (upd (upd (upd H2 T1 (.tup [.int 3, .int 4])) T2 (.tup [.int 9, .int 12])) T3 (.tup [.int 9, .int 12])) LL (.lst [.ref T1, .ref T2, .ref T3, .ref TG]) T3 = some (.tup [.int 9, .int 12]) := snew hLL _ _ upd_same
    have h4 : upd (upd (upd (upd H2 T1 (.tup [.int 3, .int 4])) T2 (.tup [.int 9, .int 12])) T3 (.tup [.int 9, .int 12])) LL (.lst [.ref T1, .ref T2, .ref T3, .ref TG]) LL = some (.lst [.ref T1, .ref T2, .ref T3, .ref TG]) := upd_same
    generalize upd (upd (upd (upd H2 T1 (.tup [.int 3, .int 4])) T2 (.tup [.int 9, .int 12])) T3 (.tup [.int 9, .int 12])) LL (.lst [.ref T1, .ref T2, .ref T3, .ref TG]) = H3 at s3 h1 h2 h3 h4
    have hP3 := hP2.same s3
    have hTG3 := s3 _ _ hTG
    refine ⟨_, rfl, p, 4, 1, rfl, hP3, by omega, by decide, by decide, fun H4 j hP4 only4 jj0 jj1 => ?_⟩
    have k4 : Kp p H3 H4 := Kp.of only4
    have k14 : Kp p H2 H4 := (Kp.same s3).trans k4
    have np : ∀ {b : Addr} {o : HO}, H3 b = some o → (∀ x y z : Int, o ≠ .lst [.int x, .int y, .int z]) → H4 b = some o := fun e n => k4 _ _ (hP3.ne' e n) e
    have w : j = 0 ∨ j = 1 ∨ j = 2 ∨ j = 3 := by omega
    have hL4 := np h4 fun _ _ _ z => by injection z with z; injection z with z; cases z
    rcases w with rfl | rfl | rfl | rfl
    · exact ⟨LL, _, 0, _, rfl, rfl, .inl (.inl hL4), atI_nat (j := 0) rfl, hQ' _ _ ⟨T1, 3, 4, rfl, k14, hP4, np h1 fun _ _ _ z => HO.noConfusion z, by decide, by decide, by decide⟩⟩
    · exact ⟨LL, _, 1, _, rfl, rfl, .inl (.inl hL4), atI_nat (j := 1) rfl, hQ' _ _ ⟨T2, 9, 12, rfl, k14, hP4, np h2 fun _ _ _ z => HO.noConfusion z, by decide, by decide, by decide⟩⟩
    · exact ⟨LL, _, 2, _, rfl, rfl, .inl (.inl hL4), atI_nat (j := 2) rfl, hQ' _ _ ⟨T3, 9, 12, rfl, k14, hP4, np h3 fun _ _ _ z => HO.noConfusion z, by decide, by decide, by decide⟩⟩
    · exact ⟨LL, _, 3, _, rfl, rfl, .inl (.inl hL4), atI_nat (j := 3) rfl, hQ' _ _ ⟨TG, mg0, lg0, rfl, k14, hP4, np hTG3 fun _ _ _ z => HO.noConfusion z, mg1, mg40, lg4⟩⟩
  rintro _ H3 ⟨TT, m, l, rfl, k3, hP3, hTT, m1, m40, l4⟩
  have e3 := e2.kp' hp0 hP2 k3
  refine ⟨TT, [_, _], rfl, .inl (.inl hTT), rfl, _, [_], rfl, _, [], rfl, rfl, ?_⟩
  -- the logs
  refine ⟨_, rfl, _, rfl, _, rfl, p, m, l, 2, rfl, hP3, by omega, m1, m40, l4, fun H4 d lt k4 hd0 hd4 rows4 nl lt0 lad hP4 => ?_⟩
  have e4 := e3.kp' hp0 hP3 k4
  have n40 := nl.n40
  refine ⟨_, rfl, d, kvsOf lt, lt.map (·.1), rfl, .inl hd4, by unfold kvsOf; rw [List.map_map, List.map_map]; rfl, by rw [List.length_map]; omega, fun ys NS pm sos hs0 => ?_⟩
  have s5 : Same H4 (upd H4 NS (.lst (ys.map V.str))) := snew hs0
  have hNS5 : upd H4 NS (.lst (ys.map V.str)) NS = some (.lst (ys.map V.str)) := upd_same
  generalize upd H4 NS (.lst (ys.map V.str)) = H5 at s5 hNS5
  have e5 := e4.trans (Ext.same s5)
  have hP5 := hP4.same s5
  have yl := pm.length_eq
  rw [List.length_map] at yl
  have y1 := nl.n1
  have yok : ∀ z ∈ ys, NameOk z := fun z hz => by
    obtain ⟨r, hr, er, _⟩ := nl.of pm hz
    rw [← er]
    exact nl.names r hr
  have NSp : NS ≠ p := hP5.ne' hNS5 names_ne_pot
  dsimp only
  -- many
  refine seq_asg (fun v H' => ∃ mn : Nat, v = .int mn ∧ 1 ≤ mn ∧ mn ≤ 400 ∧ Kp p H5 H' ∧ PotAt H' p 30004) (fun Q' hQ' => ?_) ?_
  · refine ⟨_, rfl, p, 20, _, rfl, hP5, by omega, by decide, by decide, fun H6 q hP6 only6 q0 q1 => ?_⟩
    obtain ⟨qn, rfl⟩ : ∃ qn : Nat, q = qn := ⟨q.toNat, (Int.toNat_of_nonneg q0).symm⟩
    refine ⟨_, _, rfl, rfl, by show 3 ≤ sizeLine; decide, fun ML hML => ?_⟩
    have s7 : Same H6 (upd H6 ML (.lst [.int 1, .int (1 + (qn : Int)), .int 400])) := snew hML
    have h7 : upd H6 ML (.lst [.int 1, .int (1 + (qn : Int)), .int 400]) ML = some (.lst [.int 1, .int (1 + (qn : Int)), .int 400]) := upd_same
    have MLp : ML ≠ p := hP6.ne hML
    have hP7 : PotAt (upd H6 ML (.lst [.int 1, .int (1 + (qn : Int)), .int 400])) p (2 + 30000 + 1) := hP6.upd (Ne.symm MLp)
    generalize upd H6 ML (.lst [.int 1, .int (1 + (qn : Int)), .int 400]) = H7 at s7 h7 hP7
    refine ⟨_, rfl, p, 3, _, rfl, hP7, by omega, by decide, by decide, fun H8 r hP8 only8 r0 r1 => ?_⟩
    have h8 := (only8 ML MLp).trans h7
    have kk : Kp p H5 H8 := (Kp.of only6).trans ((Kp.same s7).trans (Kp.of only8))
    have w : r = 0 ∨ r = 1 ∨ r = 2 := by omega
    rcases w with rfl | rfl | rfl
    · exact ⟨ML, _, 0, _, rfl, rfl, .inl (.inl h8), atI_nat (j := 0) rfl, hQ' _ _ ⟨1, rfl, by decide, by decide, kk, hP8.mono (by omega)⟩⟩
    · exact ⟨ML, _, 1, _, rfl, rfl, .inl (.inl h8), atI_nat (j := 1) rfl, hQ' _ _ ⟨1 + qn, by rw [show (1 : Int) + (qn : Int) = ((1 + qn : Nat) : Int) by omega], by omega, by omega, kk, hP8.mono (by omega)⟩⟩
    · exact ⟨ML, _, 2, _, rfl, rfl, .inl (.inl h8), atI_nat (j := 2) rfl, hQ' _ _ ⟨400, rfl, by decide, by decide, kk, hP8.mono (by omega)⟩⟩
  rintro _ H6 ⟨mn, rfl, mn1, mn4, k6, hP6⟩
  have e6 := e5.kp' hp0 hP5 k6
  have hNS6 := k6 _ _ NSp hNS5
  have hd6 := k6 _ _ (hP5.ne' (s5 _ _ hd4) fun _ _ _ z => HO.noConfusion z) (s5 _ _ hd4)
  have rows6 : RowsAt H6 lt := fun r hr => k6 _ _ (hP5.ne' (s5 _ _ (rows4 r hr)) names_ne_pot) (s5 _ _ (rows4 r hr))
  -- the line
  refine ⟨_, rfl, _, rfl, by omega, by omega, fun D hD => ?_⟩
  have Dp : D ≠ p := hP6.ne hD
  refine lc_range (lo := 0) (n := (mn : Int).toNat) (fun k G' => ∃ xs : List Str, Kp p H6 G' ∧ PotAt G' p (30004 + k) ∧ G' D = some (.lst (xs.map V.str)) ∧ xs.length = k ∧ ∀ x ∈ xs, x ∈ ys)
    ⟨[], Kp.new hD, (hP6.upd (Ne.symm Dp)).mono (by omega), upd_same, rfl, fun x hx => absurd hx List.not_mem_nil⟩ ?_ ?_
  · rintro k G' hk ⟨xs, kk, hP', hD', xl, xin⟩
    have hNS' := kk _ _ NSp hNS6
    refine ⟨rfl, _, rfl, _, rfl, _, rfl, NS, _, rfl, .inl (.inl (.inl hNS')), p, _, _, rfl, hP', by omega, by rw [List.length_map]; omega, by rw [List.length_map]; omega, fun G2 q hP2 only2 q0 q1 => ?_⟩
    rw [List.length_map] at q1
    obtain ⟨z, hz, mz⟩ := atI_str (xs := ys) q0 q1
    have k2' : Kp p H6 G2 := kk.trans (Kp.of only2)
    have hD2 := (only2 D Dp).trans hD'
    refine ⟨NS, _, _, _, rfl, rfl, .inl (.inl ((only2 NS NSp).trans hNS')), hz, _, hD2, by rw [List.length_map, sizeLine_eq]; omega, xs ++ [z], k2'.put hD, (hP2.upd (Ne.symm Dp)).mono (by omega), by rw [upd_same, List.map_append]; rfl, by rw [List.length_append, xl]; rfl, fun x hx => ?_⟩
    rcases List.mem_append.mp hx with w | w
    · exact xin x w
    · rw [List.mem_singleton.mp w]
      exact mz
  rintro H7 ⟨xs, k7, hP7, hD7, xl, xin⟩
  rw [Int.toNat_natCast] at hP7 xl
  have e7 := e6.kp' hp0 hP6 k7
  have tB := jB.tabs
  have g7 : Lg Ps HB H7 d D lt xs := { e := e7, hd := k7 _ _ (hP6.ne' hd6 fun _ _ _ z => HO.noConfusion z) hd6, rows := fun r hr => k7 _ _ (hP6.ne' (rows6 r hr) names_ne_pot) (rows6 r hr), n1 := nl.n1, n40 := nl.n40, nd := nl.nd, names := nl.names, ents := nl.ents, ad := lad, free := fun r hr => e3.none (lt0 r hr) tB, hl := hD7, lfree := e6.none hD tB, lne := fun r hr => ne_of_none (rows6 r hr) hD, x1 := by omega, x4 := by omega, xn := fun z hz => yok z (xin z hz) }
  have hNS7 := k7 _ _ NSp hNS6
  -- both are right
  refine ⟨_, rfl, D, xs, rfl, g7.hl, g7.x1, g7.x4, g7.xn, g7.e.tabs tB, fun H8 e8 => ⟨true, rfl, iteF ?_⟩⟩
  have g8 := g7.ext tB e8
  have t8 := g8.e.tabs tB
  refine ⟨_, rfl, d, lt, rfl, g8.hd, g8.rows, nl, t8, g8.e.sys tB jB.sys, fun H9 e9 => ⟨true, rfl, iteF ?_⟩⟩
  have g9 := g8.ext tB e9
  have hNS9 : H9 NS = some (.lst (ys.map V.str)) := (e8.trans e9).get (g7.e.tabs tB) hNS7 fun _ z => HO.noConfusion z
  -- line.reverse()
  refine ⟨_, rfl, .inl ⟨rfl, _, .inl (.inl g9.hl)⟩, D, _, rfl, rfl, g9.hl, ?_⟩
  have NSD : NS ≠ D := ne_of_none hNS6 hD
  rw [← List.map_reverse]
  have g10 := g9.line tB (ws := xs.reverse) (by rw [List.length_reverse]; exact g9.x1) (by rw [List.length_reverse]; exact g9.x4) fun z hz => g9.xn z (List.mem_reverse.mp hz)
  have hNS10 : upd H9 D (.lst (xs.reverse.map V.str)) NS = some (.lst (ys.map V.str)) := by rw [upd_ne NSD]; exact hNS9
  generalize upd H9 D (.lst (xs.reverse.map V.str)) = H10 at g10 hNS10
  -- the first log is reversed
  obtain ⟨y0, yr, ey⟩ : ∃ y0 yr, ys = y0 :: yr := by
    cases q : ys with
    | nil => rw [q] at yl; exact absurd yl (by show ¬ 0 = lt.length; omega)
    | cons a b => exact ⟨a, b, rfl⟩
  obtain ⟨r0, hr0, er0, _⟩ := nl.of pm (show y0 ∈ ys by rw [ey]; exact List.mem_cons_self)
  have at0 : atI (ys.map V.str) 0 = some (.str r0.1) := atI_nat (j := 0) (by rw [ey, er0]; rfl)
  have NSr : ∀ {r : Row} {G : Hp}, r ∈ lt → NS ≠ r.2.1 := fun {r G} hr => Ne.symm (ne_of_none (rows4 r hr) hs0)
  refine ⟨_, rfl, _, rfl, NS, _, _, _, rfl, rfl, .inl (.inl hNS10), at0, d, _, rfl, .inl ⟨_, Sum.inr r0.1, .inl g10.hd, rfl, (valV_row hr0 nl.nd).symm⟩, .inl ⟨rfl, _, .inl (.inl (g10.rows r0 hr0))⟩, r0.2.1, _, rfl, rfl, g10.rows r0 hr0, ?_⟩
  rw [← List.map_reverse]
  have g11 := g10.row tB hr0 (f := List.reverse) fun z hz => nl.ents r0 hr0 z (List.mem_reverse.mp hz)
  have hNS11 : upd H10 r0.2.1 (.lst (r0.2.2.reverse.map V.str)) NS = some (.lst (ys.map V.str)) := by rw [upd_ne (NSr (G := H10) hr0)]; exact hNS10
  generalize upd H10 r0.2.1 (.lst (r0.2.2.reverse.map V.str)) = H11 at g11 hNS11
  obtain ⟨l1, el1⟩ : ∃ l1, l1 = modRow lt r0.1 List.reverse := ⟨_, rfl⟩
  rw [← el1] at g11
  have nm1 : l1.map (·.1) = lt.map (·.1) := by rw [el1, mod_names]
  have len1 : ∀ r ∈ l1, r.2.2.length ≤ 400 := fun r hr => by
    rw [el1] at hr
    obtain ⟨s, hs, ⟨e, rfl⟩ | ⟨e, rfl⟩⟩ := mem_mod hr
    · show s.2.2.reverse.length ≤ 400
      rw [List.length_reverse]
      exact nl.l400 s hs
    · exact nl.l400 _ hs
  have NSr1 : ∀ {r : Row}, r ∈ l1 → NS ≠ r.2.1 := fun {r} hr => by
    rw [el1] at hr
    obtain ⟨s, hs, ⟨e, rfl⟩ | ⟨e, rfl⟩⟩ := mem_mod hr
    · exact (NSr (r := s) (G := H10) hs : NS ≠ s.2.1)
    · exact NSr (G := H10) hs
  -- the last log gets the first name
  obtain ⟨pre, yz, ez⟩ : ∃ pre yz, ys = pre ++ [yz] := ⟨_, _, (List.dropLast_concat_getLast (show ys ≠ [] by rw [ey]; exact List.cons_ne_nil _ _)).symm⟩
  obtain ⟨rz, hrz, erz⟩ := List.mem_map.mp (show yz ∈ l1.map (·.1) by rw [nm1]; exact pm.subset (by rw [ez]; exact List.mem_append_right _ List.mem_cons_self))
  have erz : rz.1 = yz := erz
  have atz : atI (ys.map V.str) (-1) = some (.str rz.1) := by
    rw [ez, List.map_append, erz]
    exact atI_last _ _
  have lz := len1 rz hrz
  refine ⟨_, rfl, _, rfl, _, rfl, NS, _, _, _, rfl, rfl, .inl (.inl hNS11), atz, d, _, rfl, .inl ⟨_, Sum.inr rz.1, .inl g11.hd, rfl, (valV_row hrz g11.nd).symm⟩, .inl ⟨rfl, _, .inl (.inl (g11.rows rz hrz))⟩, _, rfl, NS, _, _, _, rfl, rfl, .inl (.inl hNS11), at0, rz.2.1, _, _, rfl, rfl, g11.rows rz hrz, by rw [List.length_map, sizeLine_eq]; omega, ?_⟩
  have ap : rz.2.2.map V.str ++ [V.str r0.1] = (rz.2.2 ++ [r0.1]).map V.str := by rw [List.map_append]; rfl
  rw [ap]
  have g12 := g11.row tB hrz (f := fun z => z ++ [r0.1]) fun z hz => by
    rcases List.mem_append.mp hz with w | w
    · exact g11.ents rz hrz z w
    · rw [List.mem_singleton.mp w]
      exact nl.names r0 hr0
  have hNS12 : upd H11 rz.2.1 (.lst ((rz.2.2 ++ [r0.1]).map V.str)) NS = some (.lst (ys.map V.str)) := by rw [upd_ne (NSr1 hrz)]; exact hNS11
  generalize upd H11 rz.2.1 (.lst ((rz.2.2 ++ [r0.1]).map V.str)) = H12 at g12 hNS12
  obtain ⟨l2, el2⟩ : ∃ l2, l2 = modRow l1 rz.1 (fun z => z ++ [r0.1]) := ⟨_, rfl⟩
  rw [← el2] at g12
  have hz2 : (rz.1, rz.2.1, rz.2.2 ++ [r0.1]) ∈ l2 := by
    rw [el2]
    refine List.mem_map.mpr ⟨rz, hrz, ?_⟩
    rw [if_pos rfl]
  have t12 := g12.e.tabs tB
  -- once more
  refine ⟨_, rfl, D, _, rfl, g12.hl, g12.x1, g12.x4, g12.xn, t12, fun H13 e13 => ⟨true, rfl, iteF ?_⟩⟩
  have g13 := g12.ext tB e13
  have hNS13 := e13.get t12 hNS12 fun _ z => HO.noConfusion z
  have h13 : H13 rz.2.1 = some (.lst ((rz.2.2 ++ [r0.1]).map V.str)) := g13.rows (rz.1, rz.2.1, rz.2.2 ++ [r0.1]) hz2
  refine ⟨_, rfl, _, rfl, _, rfl, NS, _, _, _, rfl, rfl, .inl (.inl hNS13), atz, d, _, rfl, .inl ⟨_, Sum.inr rz.1, .inl g13.hd, rfl, (valV_row (r := (rz.1, rz.2.1, rz.2.2 ++ [r0.1])) hz2 g13.nd).symm⟩, rz.2.1, _, rfl, .inl (.inl (.inl h13)), _, _, rfl, rfl, _, rfl, ?_⟩
  refine ite2 (fun hlt => ?_) (fun _ => iteF ⟨_, _, _, _, _, _, _, _, _, _, rfl, jB.ext g13.e⟩)
  have hlt := of_decide_eq_true hlt
  have len2 : ∀ r ∈ l2, r.2.2.length ≤ 400 := fun r hr => by
    rw [el2] at hr
    obtain ⟨s, hs, ⟨e, rfl⟩ | ⟨e, rfl⟩⟩ := mem_mod hr
    · have es : s = rz := by
        obtain ⟨a, ha, ea⟩ := List.mem_iff_getElem.mp hs
        obtain ⟨b, hb, eb⟩ := List.mem_iff_getElem.mp hrz
        have e1 : (l1.map (·.1))[a]'(by rw [List.length_map]; exact ha) = (l1.map (·.1))[b]'(by rw [List.length_map]; exact hb) := by
          rw [List.getElem_map, List.getElem_map, ea, eb, e]
        have ij : a = b := (List.getElem_inj g11.nd).mp e1
        subst ij
        rw [← ea, ← eb]
      rw [es]
      show (rz.2.2 ++ [r0.1]).length ≤ 400
      rw [List.length_map] at hlt
      have hlt : (((rz.2.2 ++ [r0.1]).length : Nat) : Int) < 401 := hlt
      omega
    · exact len1 _ hs
  exact ⟨_, rfl, d, l2, rfl, g13.hd, g13.rows, g13.named len2, g13.e.tabs tB, g13.e.sys tB jB.sys, fun G e => ⟨true, rfl, iteF ⟨_, _, _, _, _, _, _, _, _, _, rfl, jB.ext (g13.e.trans e)⟩⟩⟩
end
end A8
set_option Elab.async false
set_option linter.all false
set_option maxRecDepth 100000
set_option maxHeartbeats 0
namespace A8
open PySem PySem.Spec PyProof.Rows L2 AL
def topR (i : Nat) : Stmt := PySem.Challenge.pw_asklines_k49_lines_and_logs_written.main.body.getD i (.Pass ⟨0, 0, 0, 0⟩)
def dd (i : Nat) (x : Str) : He.DefD := ⟨(x, none), x, x, defArgs (topR i), defBody (topR i), defScope (topR i), [], []⟩
def fnL : List He.DefD := [dd 8 "is_name", dd 12 "check_text", dd 13 "are_names", dd 14 "show_line", dd 15 "read_line", dd 16 "show_logs", dd 17 "_are_named_logs", dd 18 "read_logs", dd 20 "_law_source", dd 21 "_law_pick", dd 22 "_law_names", dd 23 "_law_logs", dd 24 "_law_logs_text", dd 25 "_law_line_right", dd 26 "_law_both_right", dd 27 "law"]
def faL : List He.Fa := [.glo "is_name", .glo "check_text", .glo "are_names", .glo "show_line", .glo "read_line", .glo "show_logs", .glo "_are_named_logs", .glo "read_logs", .glo "_law_source", .glo "_law_pick", .glo "_law_names", .glo "_law_logs", .glo "_law_logs_text", .glo "_law_line_right", .glo "_law_both_right", .glo "law", .free "all", .free "dict", .free "isinstance", .free "len", .free "list", .free "max", .free "min", .free "range", .free "repr", .free "sorted", .free "str", .int "MOST_NODES" 40, .int "MOST_LETTERS" 8, .int "MOST_ENTRIES" 400, .int "MOST_LOGGED" 400]
def tfL : List He.Defn := [("is_name", none), ("are_names", none), ("_are_named_logs", none)]
abbrev RR : PySem.W.OpenRow := PySem.W.OpenLaw.row PySem.Challenge.rw_asklines_k49_lines_and_logs_written
abbrev hk : PySem.W.Hook := hookG 4 faL fnL [] tfL
def obL (s : PySem.W.SharedT) : AlG := obsG 4 faL fnL [] tfL (HandSHeadRun.getT s)
theorem ob_eq (s : PySem.W.SharedT) : obL s = hk.obs s.abs := obsG_eq (HandSHeadRun.getT_eq s)
def looseL : List Str := [("AskError" : Str), ("NoLine" : Str), ("NoLogs" : Str), ("NoText" : Str), ("MOST_NODES" : Str), ("MOST_LETTERS" : Str), ("MOST_ENTRIES" : Str), ("MOST_LOGGED" : Str), ("is_name" : Str), ("check_text" : Str), ("are_names" : Str), ("show_line" : Str), ("read_line" : Str), ("show_logs" : Str), ("_are_named_logs" : Str), ("read_logs" : Str), ("_law_source" : Str), ("_law_pick" : Str), ("_law_names" : Str), ("_law_logs" : Str), ("_law_logs_text" : Str), ("_law_line_right" : Str), ("_law_both_right" : Str)]
theorem run (w : World) : HandSHeadRun.RunEq RR (PySem.W.view RR.prog [27]) hk obL 4000 looseL w := by
  intro os
  kernel_rfl
end A8
set_option Elab.async false
set_option linter.all false
set_option maxRecDepth 100000
set_option maxHeartbeats 4000000
namespace A8
open PySem PySem.Spec PyProof.Rows L2 AL
open GxR (TabB TabG Tabbed)
section
variable {P : Program} {w : World} {K : PySem.W.Frag} {h base : Heap} {mg : Str → Option Value}
def csL (K : PySem.W.Frag) : List (Addr × Addr) := tfL.map (He.cT K)
def psL (K : PySem.W.Frag) : List Addr := (csL K).map (·.2)
/-- a def by its name and promise -/
theorem cal_of {k : Nat} {sp : Sp} {i : Nat} {x : Str} {fd : FuncData} {ps : List Str} (F : FunD K x x (defArgs (topR i)) (defBody (topR i)) (defScope (topR i)) [] [] (He.fAd K (x, none)) fd) (ok : FnOk P w K mg base CX0 k (He.fAd K (x, none)) fd ps sp)
    (hm : mg x = some (.ref (He.fAd K (x, none)))) (hb : Binds K fd ps []) : Cal P w K mg base k x sp := ⟨_, fd, ps, ok, hm, F.kp, hb⟩
end
section
variable {P : Program} {w : World} {K : PySem.W.Frag} {h base : Heap} {mg : Str → Option Value}
theorem law_ok (X : K.In h) (G : h.Ns mainGlobals mg) (c : He.SaysD faL fnL K) {fd : FuncData} (F27 : FunD K "law" "law" (defArgs (topR 27)) (defBody (topR 27)) (defScope (topR 27)) [] [] (He.fAd K ("law", none)) fd) (TB : ∀ p ∈ csL K, TabB base mg p.1 p.2) :
    FnG P w K mg base CX0 10 (He.fAd K ("law", none)) fd ["script"] (spLaw K (psL K)) := by
  have g : ∀ (i : Nat) (x : Str), faL[i]? = some (.glo x) → mg x = some (.ref (He.fAd K (x, none))) := fun i x hx => He.glo_ok X G (c.fact i (f := .glo x) hx)
  have e : ∀ x : Str, He.Fa.free x ∈ faL → mg x = none := fun x hx => He.free_ok X G (c.facts hx)
  have g_all := e "all" (by simp [faL])
  have g_dict := e "dict" (by simp [faL])
  have g_isinstance := e "isinstance" (by simp [faL])
  have g_len := e "len" (by simp [faL])
  have g_list := e "list" (by simp [faL])
  have g_max := e "max" (by simp [faL])
  have g_min := e "min" (by simp [faL])
  have g_range := e "range" (by simp [faL])
  have g_repr := e "repr" (by simp [faL])
  have g_sorted := e "sorted" (by simp [faL])
  have g_str := e "str" (by simp [faL])
  obtain ⟨_, i_MOST_NODES⟩ := He.int_ok X G (x := "MOST_NODES") (i := 40) (c.facts (by simp [faL]))
  obtain ⟨_, i_MOST_LETTERS⟩ := He.int_ok X G (x := "MOST_LETTERS") (i := 8) (c.facts (by simp [faL]))
  obtain ⟨_, i_MOST_ENTRIES⟩ := He.int_ok X G (x := "MOST_ENTRIES") (i := 400) (c.facts (by simp [faL]))
  obtain ⟨_, i_MOST_LOGGED⟩ := He.int_ok X G (x := "MOST_LOGGED") (i := 400) (c.facts (by simp [faL]))
  obtain ⟨_, F8⟩ := c.def_ 0 (d := dd 8 "is_name") rfl
  obtain ⟨_, F12⟩ := c.def_ 1 (d := dd 12 "check_text") rfl
  obtain ⟨_, F13⟩ := c.def_ 2 (d := dd 13 "are_names") rfl
  obtain ⟨_, F14⟩ := c.def_ 3 (d := dd 14 "show_line") rfl
  obtain ⟨_, F15⟩ := c.def_ 4 (d := dd 15 "read_line") rfl
  obtain ⟨_, F16⟩ := c.def_ 5 (d := dd 16 "show_logs") rfl
  obtain ⟨_, F17⟩ := c.def_ 6 (d := dd 17 "_are_named_logs") rfl
  obtain ⟨_, F18⟩ := c.def_ 7 (d := dd 18 "read_logs") rfl
  obtain ⟨_, F20⟩ := c.def_ 8 (d := dd 20 "_law_source") rfl
  obtain ⟨_, F21⟩ := c.def_ 9 (d := dd 21 "_law_pick") rfl
  obtain ⟨_, F22⟩ := c.def_ 10 (d := dd 22 "_law_names") rfl
  obtain ⟨_, F23⟩ := c.def_ 11 (d := dd 23 "_law_logs") rfl
  obtain ⟨_, F24⟩ := c.def_ 12 (d := dd 24 "_law_logs_text") rfl
  obtain ⟨_, F25⟩ := c.def_ 13 (d := dd 25 "_law_line_right") rfl
  obtain ⟨_, F26⟩ := c.def_ 14 (d := dd 26 "_law_both_right") rfl
  have m : ∀ p : He.Defn, p ∈ tfL → He.cT K p ∈ csL K := fun p hp => List.mem_map.mpr ⟨p, hp, rfl⟩
  have m2 : ∀ p : He.Defn, p ∈ tfL → (He.cT K p).2 ∈ psL K := fun p hp => List.mem_map.mpr ⟨_, m p hp, rfl⟩
  have cName := cal_of (i := 8) (x := "is_name") (mg := mg) (base := base) F8 (ok_isName F8 (code_at F8) (TB _ (m ("is_name", none) (by simp [tfL]))) (m2 ("is_name", none) (by simp [tfL])) g_isinstance g_all g_len g_str i_MOST_LETTERS) (g 0 "is_name" rfl) (F8.bindsN fun _ _ _ _ _ _ us hl => match us, hl with | [_], _ => rfl) (P := P) (w := w)
  have cCT := cal_of (i := 12) (x := "check_text") (mg := mg) (base := base) F12 (ok_checkText F12 g_isinstance g_str) (g 1 "check_text" rfl) (F12.bindsN fun _ _ _ _ _ _ us hl => match us, hl with | [_], _ => rfl) (P := P) (w := w)
  have cAN := cal_of (i := 13) (x := "are_names") (mg := mg) (base := base) F13 (ok_areNames F13 (code_at F13) (TB _ (m ("are_names", none) (by simp [tfL]))) (m2 ("are_names", none) (by simp [tfL])) cName g_isinstance g_all g_len g_list) (g 2 "are_names" rfl) (F13.bindsN fun _ _ _ _ _ _ us hl => match us, hl with | [_, _], _ => rfl) (P := P) (w := w)
  have cSL := cal_of (i := 14) (x := "show_line") (mg := mg) (base := base) F14 (ok_showLine F14 cAN i_MOST_ENTRIES) (g 3 "show_line" rfl) (F14.bindsN fun _ _ _ _ _ _ us hl => match us, hl with | [_], _ => rfl) (P := P) (w := w)
  have cRL := cal_of (i := 15) (x := "read_line") (mg := mg) (base := base) F15 (ok_readLine F15 cCT cAN i_MOST_ENTRIES) (g 4 "read_line" rfl) (F15.bindsN fun _ _ _ _ _ _ us hl => match us, hl with | [_], _ => rfl) (P := P) (w := w)
  have cNL := cal_of (i := 17) (x := "_are_named_logs") (mg := mg) (base := base) F17 (ok_named F17 (code_at F17) (TB _ (m ("_are_named_logs", none) (by simp [tfL]))) (m2 ("_are_named_logs", none) (by simp [tfL])) cName cAN g_isinstance g_all g_len g_dict i_MOST_NODES i_MOST_LOGGED) (g 6 "_are_named_logs" rfl) (F17.bindsN fun _ _ _ _ _ _ us hl => match us, hl with | [_], _ => rfl) (P := P) (w := w)
  have cSG := cal_of (i := 16) (x := "show_logs") (mg := mg) (base := base) F16 (ok_showLogs F16 cNL g_sorted) (g 5 "show_logs" rfl) (F16.bindsN fun _ _ _ _ _ _ us hl => match us, hl with | [_], _ => rfl) (P := P) (w := w)
  have cRG := cal_of (i := 18) (x := "read_logs") (mg := mg) (base := base) F18 (ok_readLogs F18 cCT cNL cSG) (g 7 "read_logs" rfl) (F18.bindsN fun _ _ _ _ _ _ us hl => match us, hl with | [_], _ => rfl) (P := P) (w := w)
  have cSrc := cal_of (i := 20) (x := "_law_source") (mg := mg) (base := base) F20 (ok_src F20 g_len g_max) (g 8 "_law_source" rfl) (F20.bindsN fun _ _ _ _ _ _ us hl => match us, hl with | [_, _], _ => rfl) (P := P) (w := w)
  have cPick := cal_of (i := 21) (x := "_law_pick") (mg := mg) (base := base) F21 (ok_pick F21) (g 9 "_law_pick" rfl) (F21.bindsN fun _ _ _ _ _ _ us hl => match us, hl with | [_, _], _ => rfl) (P := P) (w := w)
  have cNames := cal_of (i := 22) (x := "_law_names") (mg := mg) (base := base) F22 (ok_names F22 cPick g_len g_range) (g 10 "_law_names" rfl) (F22.bindsN fun _ _ _ _ _ _ us hl => match us, hl with | [_, _], _ => rfl) (P := P) (w := w)
  have cLogs := cal_of (i := 23) (x := "_law_logs") (mg := mg) (base := base) F23 (ok_logs F23 cPick cNames g_range g_len) (g 11 "_law_logs" rfl) (F23.bindsN fun _ _ _ _ _ _ us hl => match us, hl with | [_, _, _], _ => rfl) (P := P) (w := w)
  have cLT := cal_of (i := 24) (x := "_law_logs_text") (mg := mg) (base := base) F24 (ok_logsText F24 g_sorted) (g 12 "_law_logs_text" rfl) (F24.bindsN fun _ _ _ _ _ _ us hl => match us, hl with | [_], _ => rfl) (P := P) (w := w)
  have cLR := cal_of (i := 25) (x := "_law_line_right") (mg := mg) (base := base) F25 (ok_lineR F25 cSL cRL g_isinstance g_list g_range) (g 13 "_law_line_right" rfl) (F25.bindsN fun _ _ _ _ _ _ us hl => match us, hl with | [_], _ => rfl) (P := P) (w := w)
  have fR := ok_bothR F26 cLT cSG cRG g_dict g_sorted g_range g_repr
  have mR := (g 14 "_law_both_right" rfl)
  have kR := F26.kp
  exact ok_law F27 cSrc cPick cLogs cLR fR mR kR (F26.bindsN fun _ _ _ _ _ _ us hl => match us, hl with | [_], _ => rfl) g_range g_len g_max g_min g_sorted
end
end A8
open PySem PySem.W PySem.Calls PyProof.Rows
theorem PySem.Challenge.cw_asklines_k49_lines_and_logs_written_holds : PySem.Challenge.rw_asklines_k49_lines_and_logs_written.Holds := by
  w_on; o_law
  refine HandSHeadRun.head_any (r := A8.RR) (q := view A8.RR.prog [27]) (H := A8.hk) (ob := A8.obL) (M := 4000) (loose := A8.looseL) (d := HandSHeadRun.topDef A8.RR.prog 27) (kwd := []) A8.ob_eq
    (by kernel_rfl) (fun s => by kernel_rfl) A8.run (by kernel_rfl) (by kernel_rfl) (by kernel_rfl) (by rfl) (by first | assumption | decide +kernel) (by decide +kernel) ⟨rfl, rfl, rfl, rfl, rfl, by decide +kernel⟩ ?hw ?hc
  case hw => w_witness2
  case hc =>
    refine AL.walk_ofG (l := PySem.Challenge.rw_asklines_k49_lines_and_logs_written) (n := 63) (k := 10) (x := "script") rfl (by decide) (by kernel_rfl) ⟨by decide, by decide, by decide⟩ (fun w h Y => Y.sys) ?F
    intro w mg fa h Y G hmg0
    obtain ⟨K, KX, c⟩ := Y.x
    have hmg : mg ("law" : PySem.Str) = some (.ref fa) := by
      have e : (HandSHeadRun.topDef A8.RR.prog 27).name = ("law" : PySem.Str) := by kernel_rfl
      rw [← e]
      exact hmg0
    have efa := hmg.symm.trans (He.glo_ok KX G (c.t.d.fact 15 (f := .glo "law") rfl))
    cases efa
    obtain ⟨fd, F27⟩ := c.t.d.def_ 15 (d := A8.dd 27 "law") rfl
    have b := L2.FunD.bindsA (ps := ["script"]) F27 fun _ _ _ _ _ _ us hl => match us, hl with | [_], _ => rfl
    have each : ∀ p ∈ A8.csL K, ∃ q ∈ A8.tfL, He.cT K q = p := fun p hp => List.mem_map.mp hp
    refine ⟨K, fd, A8.csL K, A8.spLaw K (A8.psL K), KX, ?_⟩
    refine ⟨fun p hp => ?_, fun p hp => ?_, fun p hp => ?_, AL.saysG_nosys c, fun s u => b s [u] rfl, fun H a ns hl _ hT hY hS => ⟨a, ns, rfl, hl, hS, fun p hp => ?_, hY, fun _ => rfl⟩, fun base _ _ TB => A8.law_ok KX G c.t.d F27 TB⟩
    · obtain ⟨q, hq, e⟩ := each p hp
      exact e ▸ c.empty q hq
    · obtain ⟨q, hq, e⟩ := each p hp
      exact e ▸ c.out q hq
    · obtain ⟨q, hq, e⟩ := each p hp
      exact e ▸ PySem.W.codeHd_of_K KX (c.hd q hq)
    · obtain ⟨q, hq, e⟩ := List.mem_map.mp hp
      exact ⟨#[], e ▸ hT q hq, trivial⟩
