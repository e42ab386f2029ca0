import PyProof.Rows.All
import Wide.All
import OpenK.AllK
import Wide.FinOn
import HandS.ForMost
import HandS.AnyAll
import HandS.GenOver
import HandS.Zip
import HandS.IsInst
import HandS.TupAny
import HandS.Flow
import HandS.Conv
import HandS.Defaults
import HandS.HeadHook1
import HandS.HeadHook2
import HandS.HeadHook3
import HandS.HeadHook4
import HandS.HeadWalk
import HandS.Head0
import HandS.Head1
import HandS.Head2
import HandS.HeadEnd
import PySem.Challenge.RW_wrongclock_k01_whole_almanacs
set_option Elab.async false
set_option linter.all false
set_option maxRecDepth 100000
set_option maxHeartbeats 0
/-! any, all of a generator expression over anything that PI serves, its element any expression (it may call defs). -/
namespace GX
open PySem PySem.Spec PyProof.Rows L2

/-- the context of a generator expression's frame -/
abbrev gx (X : Cx) (s : Shared) (H : Hp) (cenv : Env) (fp : List Addr) (A' : Around) (pn : List (Addr × Obj)) : Cx :=
  { X with s_0 := s, H_0 := H, env := cenv, outer := X.stack, stack := cenv :: X.stack, A := A', ex := fp, fn := fun _ => false, calm := true, pn := pn, xe := fun _ _ => False }

/-- the generator sleeps, or is woken: nothing but the generators' table changes -/
structure Slp (s s' : Shared) : Prop where
  heap : s'.heap = s.heap
  os : s'.os = s.os
  bare : AllBare s'.gens
theorem inv_slp {X : Cx} {pins : List (Addr × Obj)} {σ : L2.St} {H : Hp} {s s' : Shared} (I : Inv X pins σ H s) (z : Slp s s') : Inv X pins σ H s' := by
  obtain ⟨hh, g, d, t, o⟩ := s'
  obtain ⟨z1, z2, z3⟩ := z
  have z1 : hh = s.heap := z1
  have z2 : o = s.os := z2
  subst z1 z2
  exact ⟨I.ok, I.os, z3, I.base, I.loc, I.cell, I.free, I.freeC, I.pin, I.hok, I.len⟩

section
variable {X : Cx} {pins : List (Addr × Obj)} {σ : L2.St} {H : Hp} {s : Shared}
/-- the frame's start -/
theorem gx_start {scope : Scope} {own : List (Str × Nat)} {fp : List Addr} {code : Value} {A' : Around} {s5 : Shared} {a : Addr} {ob : Obj} (I : Inv X pins σ H s) (ok : BlkOk X.N X.env.scope scope own) (hN : X.N.Nodup) (hcell : ∀ y ∈ scope.names, y.2 ≠ .cell)
    (hfp : ∀ b ∈ fp, FpOk X pins H b ∧ b < s.heap.objs.size) (hA : A'.handled = none) (hfr : A'.frames = some (genEnv scope (cloFrom X.env.cells scope.names []) s.heap.objs.size code builtinsNs X.env :: X.stack))
    (hos : s5.os = s.os) (hb : AllBare s5.gens) (kp : ∀ b o, s.heap.get? b = some o → s5.heap.get? b = some o) {m : Str → Option Value} (hm : s5.heap.Ns s.heap.objs.size m)
    (ha : s.heap.objs.size < a) (hob : s5.heap.get? a = some ob) (hoc : ∀ v, ob.data ≠ .cell v) :
    Inv (gx X s H (genEnv scope (cloFrom X.env.cells scope.names []) s.heap.objs.size code builtinsNs X.env) fp A' [(a, ob)]) [] (wipe σ (own.map (·.2))) H s5 := by
  have hfree : ∀ y ∈ scope.names, y.2 = .free → ∃ c, X.env.cells.lookup y.1 = some c := fun y hy e => by
    rcases ok.free y hy e with k | k
    · exact I.ok.has _ (.inl k)
    · exact I.ok.has _ (.inr k)
  have cm : ∀ {y c}, (y, c) ∈ cloFrom X.env.cells scope.names [] → X.env.cells.lookup y = some c ∧ c < s.heap.objs.size := fun {y c} hm => by
    rcases cloFrom_mem hm with hm | ⟨h1, rfl⟩
    · cases hm
    · obtain ⟨c, hc⟩ := hfree _ h1 rfl
      rw [hc]
      obtain ⟨w, z⟩ := I.cell _ _ hc
      exact ⟨rfl, z.lt⟩
  have look : ∀ {y}, scope.names.lookup y = some .free → ∃ c, (cloFrom X.env.cells scope.names []).lookup y = some c ∧ X.env.cells.lookup y = some c := fun {y} hl => by
    have hy : (y, NameKind.free) ∈ scope.names := PySem.mem_of_lookup hl
    obtain ⟨c', e'⟩ := mem_lookup (cloFrom_has (cells := X.env.cells) (acc := []) hy)
    exact ⟨c', e', (cm (PySem.mem_of_lookup e')).1⟩
  have hk0 : ∀ y, scope.names.lookup y ≠ some .cell := fun y e => hcell _ (PySem.mem_of_lookup e) rfl
  have okB : (gx X s H (genEnv scope (cloFrom X.env.cells scope.names []) s.heap.objs.size code builtinsNs X.env) fp A' [(a, ob)]).Ok := by
    refine ⟨I.ok.mod, ok.kind, I.ok.glob, rfl, Nat.le_refl _, fun y z c e1 e2 => ?_, fun y hy => ?_, fun y c z e => absurd z (by simp), fun _ => hA, hfr, .inr ⟨rfl, rfl⟩, fun b hb => ⟨Nat.ne_of_lt (hfp b hb).2, fun y c e z => ?_⟩, I.bs, Nat.le_trans I.ok.bsz I.sz, fun b o e hb => ?_, fun b hb z => ?_, I.stack, I.stkFree⟩
    · exact I.ok.inj y z c (cm (PySem.mem_of_lookup e1)).1 (cm (PySem.mem_of_lookup e2)).1
    · rcases hy with hy | hy
      · exact absurd hy (hk0 y)
      · obtain ⟨c, h1, _⟩ := look hy
        exact ⟨c, h1⟩
    · exact (hfp b hb).1.2.2.2.2.1 y c (cm (PySem.mem_of_lookup e)).1 z
    · rcases (hfp b hb).1.2.2.2.1 with z | z
      · exact I.ok.noex b o e z
      · exact absurd (Nat.lt_of_lt_of_le (Heap.lt_size e) (Nat.le_trans I.ok.bsz z)) (Nat.lt_irrefl _)
    · rcases List.mem_cons.mp (I.stkSub b z) with z | z
      · exact (hfp b hb).1.2.1 z
      · exact (hfp b hb).1.2.2.1 z
  refine ⟨okB, hos, hb, Un.kept kp, ⟨m, hm, fun i y av e1 e2 e3 => ?_⟩, fun y c e => ?_, I.hok.fresh (Nat.le_refl _), fun y c e => I.freeC y c (cm (PySem.mem_of_lookup e)).1, fun p hp => ?_, I.hok.kept kp, by rw [wipe_length]; exact I.len⟩
  · obtain ⟨e2, hne⟩ := wipe_some e2
    have no : ∀ k, scope.names.lookup y = some k → ¬ (k = .local ∨ k = .cell) := fun k hk hh => by
      rcases ok.own _ (PySem.mem_of_lookup hk) hh with e' | e'
      · obtain ⟨p, hp, hpy⟩ := List.mem_map.mp e'
        have e3 := ok.ix p hp
        have : p.1 = y := hpy
        rw [this] at e3
        exact hne (List.mem_map.mpr ⟨p, hp, nodup_ix hN e3 e1⟩)
      · exact e' (List.mem_of_getElem? e1)
    have e3 : scope.names.lookup y = some .free := by
      rcases e3 with e3 | e3 | e3
      · exact absurd (.inl rfl) (no _ e3)
      · exact absurd (.inr rfl) (no _ e3)
      · exact e3
    obtain ⟨m0, hn, hl⟩ := I.loc
    have hvis : Vis X.env.scope y := (ok.free _ (PySem.mem_of_lookup e3) rfl).elim (fun k => .inr (.inl k)) (fun k => .inr (.inr k))
    obtain ⟨w, r, q⟩ := hl i y av e1 e2 hvis
    refine ⟨w, r, .inr ⟨.inr e3, ?_⟩⟩
    obtain ⟨c, h1, h2⟩ := look e3
    rcases q with ⟨k, _⟩ | ⟨_, c', e', z⟩
    · have k : X.env.scope.names.lookup y = some .local := k
      rcases ok.free _ (PySem.mem_of_lookup e3) rfl with k' | k' <;> rw [show X.env.scope.names.lookup y = _ from k'] at k <;> cases k
    · rw [h2] at e'; cases e'
      exact ⟨c, h1, z.keeps kp⟩
  · obtain ⟨w, z⟩ := I.cell y c (cm (PySem.mem_of_lookup e)).1
    exact ⟨w, z.keeps kp⟩
  · have hp : p ∈ [(a, ob)] ++ [] := hp
    rw [List.append_nil, List.mem_singleton] at hp
    subst hp
    refine ⟨hob, I.hok.fresh (Nat.le_of_lt ha), Nat.ne_of_gt ha, fun hm => ?_, hoc⟩
    obtain ⟨_, o, ho, _⟩ := I.stack.mem hm
    exact absurd (Nat.lt_of_lt_of_le (Heap.lt_size ho) (Nat.le_of_lt ha)) (Nat.lt_irrefl _)
end

/-- truth of a value that needs no heap -/
def TruS (y : V) (k : Bool) : Prop := match y with
  | .non => k = false
  | .bl b => k = b
  | .int i => k = (i != 0)
  | _ => False
theorem tru_s {prog : Program} {w : World} {A : Around} {E : Value → Shared → Prop} {s : Shared} {y : V} {u : Value} {k : Bool} {Q : Bool → Shared → Prop} (r : RelV y u) (t : TruS y k) (h : Q k s) : wpAny (model prog w) A (truthy u) Q E s := by
  cases y with
  | non =>
    cases r
    have e : k = false := t
    subst e
    exact truthy_none h
  | bl b =>
    cases r
    have e : k = b := t
    subst e
    exact wpAny_truthy_bool h
  | int i =>
    obtain ⟨t', rfl⟩ := r
    have e : k = (i != 0) := t
    subst e
    exact PySem.P.truthy_int h
  | _ => exact (show False from t).elim

/-! ### the generator's segments -/
section
variable {G : Cx} {A2 : Around} {elt tg iter : Expr} {scope : Scope} {pos : Pos} {it : Addr} {fp : List Addr} {tn : Nat → Heap → Prop} {J : It} {g : TG} {te : TE} {vs : List Nat} {σ0 : L2.St} {W : Nat → Nat → Hp → Prop} {d : Bool} {Qe : Bool → Hp → Prop}
abbrev gcode (G : Cx) (elt tg iter : Expr) (scope : Scope) (pos : Pos) (it : Addr) : Code := .compLoop (.GeneratorExp elt [⟨tg, iter, [], 0⟩] scope pos) 0 (.ref it) .none G.env
abbrev gcode0 (G : Cx) (elt tg iter : Expr) (scope : Scope) (pos : Pos) (it : Addr) : Code := .compStart (.GeneratorExp elt [⟨tg, iter, [], 0⟩] scope pos) 0 (.ref it) .none G.env
/-- exhausted -/
def GRp (G : Cx) (σ0 : L2.St) (d : Bool) (Qe : Bool → Hp → Prop) : Nat → Shared → Shared → Prop := fun _ _ s => ∃ H, Inv G [] σ0 H s ∧ Qe d H
def GR2 (G : Cx) (σ0 : L2.St) (d : Bool) (Qe : Bool → Hp → Prop) : GenEnd := fun n s₀ r s => r = .ok .next ∧ GRp G σ0 d Qe n s₀ s
/-- one element is out -/
def GY2 (G : Cx) (σ0 : L2.St) (fp : List Addr) (tn : Nat → Heap → Prop) (W : Nat → Nat → Hp → Prop) (d : Bool) (Qe : Bool → Hp → Prop) : Protocol := fun n _ v s kap =>
  ∃ y k H, RelV y v ∧ TruS y k ∧ Inv G [] σ0 H s ∧ (if k = d then (∃ i m, m < n ∧ tn i s.heap ∧ (∀ b ∈ fp, H b = none) ∧ W i m H) ∧ ∀ s'', Slp s s'' → kap (.send .none) s'' else Qe (!d) H)

/-- what a turn is to bring -/
def GTurn (J : It) (g : TG) (te : TE) (vs : List Nat) (σ0 : L2.St) (W : Nat → Nat → Hp → Prop) (d : Bool) (Qe : Bool → Hp → Prop) : Prop := ∀ i m H, W i m H →
  (J.stop i H ∧ Qe d H) ∨ (J.go i H ∧ ∃ Nx : Hp → Prop, (∀ H', Nx H' → ∃ m', m' < m ∧ W (i + 1) m' H') ∧ ∀ x H', J.yld i H x H' → g x σ0 H' fun σ2 H3 => wipe σ2 vs = σ0 ∧ te σ2 H3 fun y H4 => ∃ k, TruS y k ∧ if k = d then Nx H4 else Qe (!d) H4)

theorem seg_loop (hco : G.env.scope.isCoroutine = false) (hA : A2.over (gcode G elt tg iter scope pos it) [] = G.A) (hcalm : G.calm = true) (hxe : G.xe = fun _ _ => False) (T : Turn G.prog G.w G.K tg J fp it tn) (pg : PG G tg g) (pe : PE G elt te)
    (stat : ∀ {H' : Hp}, (∀ b ∈ fp, H' b = none) → ∀ b ∈ fp, FpOk G [] H' b) (turn : GTurn J g te vs σ0 W d Qe) :
    ∀ (m i n : Nat) (s₀ s : Shared) (H : Hp), m < n → Inv G [] σ0 H s → tn i s.heap → (∀ b ∈ fp, H b = none) → W i m H →
      Seg (model G.prog G.w) A2 (GR2 G σ0 d Qe) (GY2 G σ0 fp tn W d Qe) n s₀ (gcode G elt tg iter scope pos it) ((model G.prog G.w).den (gcode G elt tg iter scope pos it)) [] s := by
  intro m
  induction m using Nat.strongRecOn with
  | ind m ih =>
    intro i n s₀ s H hmn I st fr w
    obtain ⟨n, rfl⟩ : ∃ k, n = k + 1 := ⟨n - 1, by omega⟩
    show Seg _ A2 _ _ _ s₀ _ ((compTurn (.GeneratorExp elt [⟨tg, iter, [], 0⟩] scope pos) 0 (.ref it) .none G.env).onRaise (leaving G.env)) [] s
    rw [compTurn_gen, Sem.onRaise_eq_wrap]
    refine seg_bind_wrap (wpAny_standAt ?_)
    rcases turn i m H w with ⟨stop, qq⟩ | ⟨go, Nx, hNx, step⟩
    · refine seg_bind_wrap ?_
      rw [hA]
      refine thnF (T.done G rfl rfl rfl hcalm i [] s σ0 H (fun _ _ => False) I (stat fr) st stop) fun r s1 ⟨hr, I1⟩ => ?_
      subst hr
      exact seg_end (.ok .next) ⟨rfl, H, I1, qq⟩
    · refine seg_bind_wrap ?_
      rw [hA]
      refine thnF (T.item G rfl rfl rfl hcalm i [] s σ0 H (fun _ _ => False) I (stat fr) st go) fun r s1 ⟨u, hr, h1⟩ => ?_
      subst hr
      refine seg_bind_wrap ?_
      rw [hA]
      refine thnF h1 fun _ s2 ⟨x, H2, I2, rx, yl, st2, fr2⟩ => ?_
      have I2' := I2.pinned (stat fr2) (T.obj _ _ st2)
      refine seg_bind_wrap ?_
      rw [hA]
      have hg := pg.run _ s2 σ0 H2 x u _ I2' rx (step x H2 yl)
      rw [hxe] at hg
      refine thnF hg fun _ s3 ⟨σ3, H3, I3, hw3, q3⟩ => ?_
      refine seg_bind_wrap ?_
      rw [hA]
      refine wpAny_tests_nil ?_
      show Seg _ A2 _ _ _ s₀ _ (Sem.wrap _ _ _ _ (if true = true then _ else _)) [] s3
      rw [if_pos rfl]
      have hy : ∀ v, yieldOut G.env v = yieldValue v := fun v => by simp only [yieldOut, hco, Bool.false_eq_true, if_false]
      simp only [hy]
      rw [Sem.bind_eq_wrap', Sem.bind_eq_wrap', Sem.wrap_wrap, Sem.wrap_wrap]
      refine seg_wrap ?_
      rw [hA]
      have he := pe.run _ s3 σ3 H3 _ I3 q3
      rw [hxe] at he
      refine thnF he fun u4 s4 ⟨y, H4, I4, ry, k, tk, q4⟩ => ?_
      have pin4 : ∀ b ∈ fp, ∀ o, s2.heap.get? b = some o → s4.heap.get? b = some o ∧ H4 b = none := fun b hb o e =>
        let z := I4.pin (b, o) (List.mem_append_right _ (List.mem_append_right _ (mem_pinsAt hb e)))
        ⟨z.1, z.2.1⟩
      have hl : σ0.length = σ3.length := by rw [← hw3, wipe_length]
      have I5 : Inv G [] σ0 H4 s4 := (I4.unpinned (pins := [])).weak hl (fun j v e => by
        rw [← hw3] at e
        exact (wipe_some e).1)
      refine seg_at (seg_yield rfl rfl rfl ⟨y, k, H4, ry, tk, I5, ?_⟩)
      by_cases hk : k = d
      · rw [if_pos hk] at q4
        rw [if_pos hk]
        obtain ⟨m', hm, w'⟩ := hNx _ q4
        have st4 : tn (i + 1) s4.heap := T.keep _ _ _ st2 fun b hb o e => (pin4 b hb o e).1
        have fr4 : ∀ b ∈ fp, H4 b = none := fun b hb => by
          obtain ⟨o, e, _⟩ := T.obj _ _ st2 b hb
          exact (pin4 b hb o e).2
        refine ⟨⟨i + 1, m', by omega, st4, fr4, w'⟩, fun s'' z => ?_⟩
        refine seg_again rfl (ih m' hm (i + 1) n s'' s'' H4 (by omega) (inv_slp I5 z) ?_ fr4 w')
        rw [z.heap]
        exact st4
      · rw [if_neg hk] at q4
        rw [if_neg hk]
        exact q4
theorem seg_start (hco : G.env.scope.isCoroutine = false) (hA : A2.over (gcode G elt tg iter scope pos it) [] = G.A) (hcalm : G.calm = true) (hxe : G.xe = fun _ _ => False) (T : Turn G.prog G.w G.K tg J fp it tn) (pg : PG G tg g) (pe : PE G elt te)
    (stat : ∀ {H' : Hp}, (∀ b ∈ fp, H' b = none) → ∀ b ∈ fp, FpOk G [] H' b) (turn : GTurn J g te vs σ0 W d Qe) (m n : Nat) (s₀ s : Shared) (H : Hp) (hmn : m < n) (I : Inv G [] σ0 H s) (st : tn 0 s.heap) (fr : ∀ b ∈ fp, H b = none) (w : W 0 m H) :
    Seg (model G.prog G.w) A2 (GR2 G σ0 d Qe) (GY2 G σ0 fp tn W d Qe) n s₀ (gcode0 G elt tg iter scope pos it) ((model G.prog G.w).den (gcode0 G elt tg iter scope pos it)) [] s := by
  have loop := seg_loop (pos := pos) (scope := scope) (iter := iter) hco hA hcalm hxe T pg pe stat turn m 0 n s₀ s H hmn I st fr w
  show Seg _ A2 _ _ _ s₀ _ ((compStart (.GeneratorExp elt [⟨tg, iter, [], 0⟩] scope pos) 0 (.ref it) .none G.env).onRaise (leaving G.env)) [] s
  unfold compStart
  rw [Sem.onRaise_eq_wrap]
  show Seg _ A2 _ _ _ s₀ _ ((ask >>= _).wrap _ _ _ _) [] s
  refine seg_bind_wrap (wpAny_askSetting ?_)
  split
  · exact seg_again rfl loop
  · first
      | exact seg_bind_wrap (wpAny_rule (seg_bind_wrap (wpAny_standAt (seg_bind_wrap (T.self _ 0 s _ _ st (seg_again rfl loop))))))
      | (refine seg_bind_wrap (wpAny_rule ?_); show Seg _ A2 _ _ _ s₀ _ ((standAt iter.pos >>= _).wrap _ _ _ _) [] s; exact seg_bind_wrap (wpAny_standAt (seg_bind_wrap (T.self _ 0 s _ _ st (seg_again rfl loop)))))

/-! ### the consumer -/
/-- what stands between two turns of the consumer -/
structure Cons (G : Cx) (A2 : Around) (σ0 : L2.St) (fp : List Addr) (tn : Nat → Heap → Prop) (W : Nat → Nat → Hp → Prop) (d : Bool) (Qe : Bool → Hp → Prop) (gN n : Nat) (s : Shared) : Prop where
  inv : ∃ H, Inv G [] σ0 H s
  gen : ∃ gs, s.gens[gN]? = some gs ∧ ∀ s'', Slp s s'' → gs.Goes (model G.prog G.w) A2 (GR2 G σ0 d Qe) (GY2 G σ0 fp tn W d Qe) n (.send .none) s''
theorem bare_set {gens : Array GenState} {g : Nat} {x : GenState} (h : AllBare gens) (hx : x.bare = true) : AllBare (gens.setIfInBounds g x) := by
  intro y hy
  obtain ⟨i, hi, e⟩ := Array.getElem_of_mem hy
  rw [← e]
  rw [Array.getElem_setIfInBounds (by simpa using hi)]
  split
  · exact hx
  · exact h _ (Array.getElem_mem _)
theorem slp_set {s : Shared} {g : Nat} {x : GenState} (h : AllBare s.gens) (hx : x.bare = true) : Slp s (s.setGen g x) := ⟨rfl, rfl, bare_set h hx⟩
/-- one turn of the consumer -/
theorem cons_next {A : Around} {a : Addr} {ob : Obj} {gN n : Nat} {s : Shared} {Q : Option Value → Shared → Prop} {E : Value → Shared → Prop} (hd : A.handled = none) (hroom : A.depth < recursionLimit) (hpn : (a, ob) ∈ G.pn) (hob : ob.cls = .type "generator" ∧ (∃ nm qn, ob.data = .fields #[.int gN 0, nm, qn]) ∧ ob.slots = #[])
    (C : Cons G A.in1 σ0 fp tn W d Qe gN n s)
    (hN : ∀ H s', Inv G [] σ0 H s' → Qe d H → Q none s')
    (hY : ∀ y k H v s', RelV y v → TruS y k → (if k = d then ∃ n', n' < n ∧ Cons G A.in1 σ0 fp tn W d Qe gN n' s' else Inv G [] σ0 H s' ∧ Qe (!d) H) → Q (some v) s') :
    wpAny (model G.prog G.w) A (pyNext (.ref a)) Q E s := by
  obtain ⟨⟨H, I⟩, gs, hgs, hgo⟩ := C
  have hg : s.heap.IsGen a gN := by
    obtain ⟨e, _⟩ := I.pin (a, ob) (List.mem_append_left _ hpn)
    obtain ⟨h1, ⟨nm, qn, h2⟩, h3⟩ := hob
    exact ⟨ob, nm, qn, e, h1, h2, h3⟩
  have hlt : gN < s.gens.size := by
    rcases Nat.lt_or_ge gN s.gens.size with h' | h'
    · exact h'
    · rw [Array.getElem?_eq_none h'] at hgs; cases hgs
  refine GenW.wpAny_gsz (n := s.gens.size) (Nat.le_refl _) ?_
  refine wpAny_pyNext_genexpQ (P := GRp G σ0 d Qe) (Y := GY2 G σ0 fp tn W d Qe) hd I.nolimit hroom hg hgs (hgo _ (slp_set I.bare rfl)) (fun v s₁ gs' hb hv => ?_) (fun s₁ hp h' hk => ?_)
  · intro hsz
    obtain ⟨y, k, H1, ry, tk, I1, q⟩ := hv
    have hlt1 : gN < s₁.gens.size := by
      have e : (s₁.setGen gN gs').gens.size = s₁.gens.size := GenW.setGen_size ..
      omega
    refine hY y k H1 v _ ry tk ?_
    have I2 : Inv G [] σ0 H1 (s₁.setGen gN gs') := inv_slp I1 (slp_set I1.bare hb)
    by_cases hk : k = d
    · rw [if_pos hk] at q ⊢
      obtain ⟨⟨i, m, hm, st, fr, w⟩, kap⟩ := q
      obtain ⟨n, rfl⟩ : ∃ j, n = j + 1 := ⟨n - 1, by omega⟩
      refine ⟨n, Nat.lt_succ_self _, ⟨⟨H1, I2⟩, gs', ?_, fun s'' z => ?_⟩⟩
      · simp [Shared.setGen, hlt1]
      · exact kap s'' ⟨z.heap, z.os, z.bare⟩
    · rw [if_neg hk] at q ⊢
      exact ⟨I2, q⟩
  · intro _
    obtain ⟨H1, I1, q⟩ := hp
    refine hN H1 _ ?_ q
    have I2 : Inv G [] σ0 H1 { s₁ with heap := h' } := I1.kept (t' := s₁.toks) hk
    exact inv_slp I2 ⟨rfl, rfl, bare_set I1.bare rfl⟩
theorem all_loop {A : Around} {R : Result → Shared → Prop} {a : Addr} {ob : Obj} {gN : Nat} (hd : A.handled = none) (hroom : A.depth < recursionLimit) (hpn : (a, ob) ∈ G.pn) (hob : ob.cls = .type "generator" ∧ (∃ nm qn, ob.data = .fields #[.int gN 0, nm, qn]) ∧ ob.slots = #[])
    (hR : ∀ b H s', Inv G [] σ0 H s' → Qe b H → R (.ok (.ret (.bool b))) s') : ∀ (n : Nat) (s : Shared), Cons G A.in1.in1 σ0 fp tn W true Qe gN n s → codeAny (model G.prog G.w) A (.builtin "all.loop" ⟨[.ref a], []⟩) R s := by
  intro n
  induction n using Nat.strongRecOn with
  | ind n ih =>
    intro s C
    refine codeAny_builtin F.entry_all_loop ?_
    rw [Around.under_plainId F.plain_all_loop _]
    show wpAny _ A.in1 (pyNext (.ref a) >>= _) _ _ s
    refine wpAny_bind (cons_next (A := A.in1) hd hroom hpn hob C (fun H s' I q => ?_) fun y k H v s' ry tk q => ?_)
    · exact wpAny_bind (wpAny_rule (wpAny_pure (hR true H s' I q)))
    · refine wpAny_bind (wpAny_holding (tru_s ry tk ?_))
      refine wpAny_bind (wpAny_letGo ?_)
      cases k with
      | true =>
        rw [if_pos rfl] at q
        obtain ⟨n', hn, C'⟩ := q
        simp only [if_true]
        exact wpAny_pure ⟨plainId_quiet F.plain_all_loop _, ih n' hn _ C'⟩
      | false =>
        rw [if_neg (by decide)] at q
        simp only [Bool.false_eq_true, if_false]
        exact wpAny_bind (wpAny_rule (wpAny_pure (hR false H s' q.1 q.2)))
theorem any_loop {A : Around} {R : Result → Shared → Prop} {a : Addr} {ob : Obj} {gN : Nat} (hd : A.handled = none) (hroom : A.depth < recursionLimit) (hpn : (a, ob) ∈ G.pn) (hob : ob.cls = .type "generator" ∧ (∃ nm qn, ob.data = .fields #[.int gN 0, nm, qn]) ∧ ob.slots = #[])
    (hR : ∀ b H s', Inv G [] σ0 H s' → Qe b H → R (.ok (.ret (.bool b))) s') : ∀ (n : Nat) (s : Shared), Cons G A.in1.in1 σ0 fp tn W false Qe gN n s → codeAny (model G.prog G.w) A (.builtin "any.loop" ⟨[.ref a], []⟩) R s := by
  intro n
  induction n using Nat.strongRecOn with
  | ind n ih =>
    intro s C
    refine codeAny_builtin F.entry_any_loop ?_
    rw [Around.under_plainId F.plain_any_loop _]
    show wpAny _ A.in1 (pyNext (.ref a) >>= _) _ _ s
    refine wpAny_bind (cons_next (A := A.in1) hd hroom hpn hob C (fun H s' I q => ?_) fun y k H v s' ry tk q => ?_)
    · exact wpAny_bind (wpAny_rule (wpAny_pure (hR false H s' I q)))
    · refine wpAny_bind (wpAny_holding (tru_s ry tk ?_))
      refine wpAny_bind (wpAny_letGo ?_)
      cases k with
      | false =>
        rw [if_pos rfl] at q
        obtain ⟨n', hn, C'⟩ := q
        simp only [Bool.false_eq_true, if_false]
        exact wpAny_pure ⟨plainId_quiet F.plain_any_loop _, ih n' hn _ C'⟩
      | true =>
        rw [if_neg (by decide)] at q
        simp only [if_true]
        exact wpAny_bind (wpAny_rule (wpAny_pure (hR true H s' q.1 q.2)))
end

/-! ### the rule -/
/-- d: the answer where no element says otherwise (all: true; any: false); P: the running def's table; vs: the slots of the generator's own names -/
def tGx (P : Addr) (d : Bool) (wi : TI) (g : TG) (te : TE) (vs : List Nat) : TE := fun σ H Q => wi σ H fun J H1 => GxR.TabG H1 P ∧ ∀ H2, GxR.Tabbed P H1 H2 →
  ∃ W : Nat → Nat → Hp → Prop, (∃ m, W 0 m H2) ∧ GTurn J g te vs (wipe σ vs) W d (fun b H' => Q (.bl b) H')

/-- the generator is made -/
def Ready (X : Cx) (pins : List (Addr × Obj)) (σ : L2.St) (d : Bool) (Q : VK) (u : Value) (s : Shared) : Prop :=
  ∃ (G : Cx) (a : Addr) (ob : Obj) (gN n : Nat) (σ0 : L2.St) (fp : List Addr) (tn : Nat → Heap → Prop) (W : Nat → Nat → Hp → Prop), u = .ref a ∧ G.prog = X.prog ∧ G.w = X.w ∧ (a, ob) ∈ G.pn ∧
    (ob.cls = .type "generator" ∧ (∃ nm qn, ob.data = .fields #[.int gN 0, nm, qn]) ∧ ob.slots = #[]) ∧ Cons G X.A.in1.in1 σ0 fp tn W d (fun b H => Q (.bl b) H) gN n s ∧ ∀ H s', Inv G [] σ0 H s' → Inv X pins σ H s'

section
variable {X : Cx} {pins : List (Addr × Obj)} {σ : L2.St} {H : Hp} {s : Shared}
theorem room_gen {A : Around} {k : Nat} {elt tg iter : Expr} {scope : Scope} {pos : Pos} {it : Value} {env : Env} (hr : Room (k + 1) A) : Room k (A.in1.in1.over (.compLoop (.GeneratorExp elt [⟨tg, iter, [], 0⟩] scope pos) 0 it .none env) []) := by
  have h1 := hr.dp
  have h2 := hr.un
  refine ⟨hr.hd, ?_, ?_⟩
  · show A.depth + frameCount ([] : List (Code × Pos)) + 1 + 3 * k + 5 < _
    have e : frameCount ([] : List (Code × Pos)) = 0 := rfl
    omega
  · show A.units + 1 + 1 + unitsOf ([] : List (Code × Pos)) + 3 + 16 * k + 200 < _
    have e : unitsOf ([] : List (Code × Pos)) = 0 := rfl
    omega
theorem gen_make {own : List (Str × Nat)} {c P : Addr} {elt tg iter : Expr} {gpos : Pos} {scope : Scope} {wi : TI} {g : TG} {te : TE} {k : Nat} {d : Bool} {Q : VK} {Q' : Value → Shared → Prop}
    (hr : Room (k + 1) X.A) (TB : GxR.TabB X.base X.mg c P) (hcode : X.env.code = .ref c) (hN : X.N.Nodup) (ok : BlkOk X.N X.env.scope scope own) (hco : scope.isCoroutine = false) (hcell : ∀ y ∈ scope.names, y.2 ≠ .cell) (dot : scope.names.lookup (".0" : Str) = some NameKind.local)
    (hi : PI X tg iter wi) (hg : ∀ (s : Shared) (H : Hp) (C : Addr) (cl : List (Str × Addr)) (cd : Value) (fp : List Addr) (A' : Around) (pn : List (Addr × Obj)), PG (gx X s H (genEnv scope cl C cd builtinsNs X.env) fp A' pn) tg g)
    (he : ∀ (s : Shared) (H : Hp) (C : Addr) (cl : List (Str × Addr)) (cd : Value) (fp : List Addr) (A' : Around) (pn : List (Addr × Obj)), Room k A' → PE (gx X s H (genEnv scope cl C cd builtinsNs X.env) fp A' pn) elt te)
    (hs : ∀ v, genFold iter X.env v = pure v) (I : Inv X pins σ H s) (h : tGx P d wi g te (own.map (·.2)) σ H Q) (hQ : ∀ u s', Ready X pins σ d Q u s' → Q' u s') :
    wpAny (model X.prog X.w) X.A (eval (.GeneratorExp elt [⟨tg, iter, [], 0⟩] scope gpos) X.env) Q' X.xe s := by
  have hfree : ∀ y ∈ scope.names, y.2 = .free → ∃ c, X.env.cells.lookup y.1 = some c := fun y hy e => by
    rcases ok.free y hy e with k | k
    · exact I.ok.has _ (.inl k)
    · exact I.ok.has _ (.inr k)
  refine wpAny_GeneratorExp_make hco (closure_ok hfree) hcell dot ok.kind (by have := hr.dp; omega) ?_ hs
  refine thn (hi.run pins s σ H _ I h) fun xv s1 h1 => thn h1 fun itv s2 h2 => ?_
  obtain ⟨it, fp, tn, J, H2, rfl, I2, T, st2, f2, ⟨ps, hP, ht⟩, q⟩ := h2
  have hPs : s2.heap.get? P = some { cls := .none, data := .fields ps } := I2.hok P _ hP
  have cd : PySem.W.CodeHd s2.heap c P := TB.code.keeps fun b u e => I2.bk b u e
  refine ⟨I2.nolimit, ?_⟩
  have cont : ∀ (code : Value) (h3 : Heap) (tk : Nat) (ps' : Array Value), Heap.ExtBut P s2.heap h3 → s2.heap.objs.size ≤ h3.objs.size → h3.get? P = some { cls := .none, data := .fields ps' } → (∃ more, ps' = ps ++ more) → TriplesOk ps'.toList →
      wpAny (model X.prog X.w) X.A (builtinsFor X.env.globals X.env.builtins) (fun bi s₄ => ∀ h', h'.Ns s₄.heap.objs.size (fun y => if y = ".0" then some (.ref it) else none) → Heap.SameBut s₄.heap.objs.size (s₄.heap.push { cls := .type "frame", data := .dict #[] }) h' →
          Q' (.ref h'.objs.size) { s₄ with
            gens := s₄.gens.push (.fresh (.compStart (.GeneratorExp elt [⟨tg, iter, [], 0⟩] scope gpos) 0 (.ref it) .none (genEnv scope (cloFrom X.env.cells scope.names []) s₄.heap.objs.size code bi X.env))),
            toks := s₄.toks + 1 + 1 + 1,
            heap := h'.push { cls := .type "generator", data := .fields #[.int s₄.gens.size 0, .str "<genexpr>" (s₄.toks + 1), .str (X.env.qual ++ "<genexpr>") (s₄.toks + 1 + 1)] } }) X.xe { s2 with heap := h3, toks := tk } := by
    intro code h3 tk ps' hx hsz hP3 hmore ht3
    obtain ⟨more, rfl⟩ := hmore
    obtain ⟨bm, ob, e1, e2, e3, e4, e5, e6, e7, e8⟩ := TB.bm
    refine wpAny_builtinsFor (m := X.mg) (by rw [I2.ok.glob]; exact (I2.mod.glob.keeps I2.bk).extBut hx TB.gP) e1 e2 (hx _ _ e4 (I2.bk _ _ e5)) e6 e7 e8 ?_
    have I3 : Inv X pins σ (upd H2 P (.tbl (ps ++ more))) { s2 with heap := h3, toks := tk } := GxR.inv_tab (g' := s2.gens) (d' := s2.drawn) I2 hP (fun b u hb e => hx b u hb e) hP3 I2.bare
    intro h' hn' hs'
    have nfP : ∀ b ∈ fp, b ≠ P := fun b hb z => by
      have z2 := (f2 b hb).1
      rw [z, hP] at z2
      cases z2
    have f3 : ∀ b ∈ fp, FpOk X pins (upd H2 P (.tbl (ps ++ more))) b ∧ b < h3.objs.size := fun b hb => by
      refine ⟨⟨?_, (f2 b hb).2⟩, ?_⟩
      · rw [upd_ne (nfP b hb)]
        exact (f2 b hb).1
      · obtain ⟨o, e, _⟩ := T.obj _ _ st2 b hb
        exact Heap.lt_size (hx b o (nfP b hb) e)
    have st3 : tn 0 h3 := T.keep _ _ _ st2 fun b hb o e => hx b o (nfP b hb) e
    obtain ⟨W, ⟨m0, w0⟩, turn⟩ := q (upd H2 P (.tbl (ps ++ more))) ⟨⟨ps ++ more, upd_same, ht3⟩, fun b hb => upd_ne hb⟩
    have hszn : h'.objs.size = h3.objs.size + 1 := by rw [hs'.1, Heap.size_push]
    have keep' : ∀ b o, h3.get? b = some o → h'.get? b = some o := fun b o e => hs'.extBut b o (Nat.ne_of_lt (Heap.lt_size e)) (Heap.get?_push_of_some _ e)
    have keep5 : ∀ b o, h3.get? b = some o → (h'.push { cls := .type "generator", data := .fields #[.int s2.gens.size 0, .str "<genexpr>" (tk + 1), .str (X.env.qual ++ "<genexpr>") (tk + 1 + 1)] }).get? b = some o := fun b o e => Heap.get?_push_of_some _ (keep' b o e)
    refine hQ _ _ ?_
    generalize hgo : ({ cls := .type "generator", data := .fields #[.int s2.gens.size 0, .str "<genexpr>" (tk + 1), .str (X.env.qual ++ "<genexpr>") (tk + 1 + 1)] } : Obj) = gob at keep5 ⊢
    have hfr : (X.A.in1.in1.over (.compLoop (.GeneratorExp elt [⟨tg, iter, [], 0⟩] scope gpos) 0 (.ref it) .none (genEnv scope (cloFrom X.env.cells scope.names []) h3.objs.size code builtinsNs X.env)) []).frames = some (genEnv scope (cloFrom X.env.cells scope.names []) h3.objs.size code builtinsNs X.env :: X.stack) := by
      show pushEnvs [genEnv scope (cloFrom X.env.cells scope.names []) h3.objs.size code builtinsNs X.env] (pushEnvs [] X.A.frames) = _
      rw [I2.ok.frames]
      rfl
    have I5 := gx_start (s := { s2 with heap := h3, toks := tk }) (code := code) (A' := X.A.in1.in1.over (.compLoop (.GeneratorExp elt [⟨tg, iter, [], 0⟩] scope gpos) 0 (.ref it) .none (genEnv scope (cloFrom X.env.cells scope.names []) h3.objs.size code builtinsNs X.env)) [])
      (s5 := { s2 with gens := s2.gens.push (.fresh (.compStart (.GeneratorExp elt [⟨tg, iter, [], 0⟩] scope gpos) 0 (.ref it) .none (genEnv scope (cloFrom X.env.cells scope.names []) h3.objs.size code builtinsNs X.env))), toks := tk + 1 + 1 + 1, heap := h'.push gob }) (a := h'.objs.size) (ob := gob)
      I3 ok hN hcell f3 hr.hd hfr rfl (I2.bare.push rfl) keep5 (hn'.push _) (by show h3.objs.size < _; omega) (Heap.get?_push_size _ (by rw [← hgo]; rfl)) (fun v z => by rw [← hgo] at z; cases z)
    generalize hG : gx X { s2 with heap := h3, toks := tk } (upd H2 P (.tbl (ps ++ more))) (genEnv scope (cloFrom X.env.cells scope.names []) h3.objs.size code builtinsNs X.env) fp (X.A.in1.in1.over (.compLoop (.GeneratorExp elt [⟨tg, iter, [], 0⟩] scope gpos) 0 (.ref it) .none (genEnv scope (cloFrom X.env.cells scope.names []) h3.objs.size code builtinsNs X.env)) []) [(h'.objs.size, gob)] = G at I5
    have nfp : ∀ b ∈ fp, (upd H2 P (.tbl (ps ++ more))) b = none := fun b hb => (f3 b hb).1.1
    refine ⟨G, h'.objs.size, gob, s2.gens.size, m0 + 1, wipe σ (own.map (·.2)), fp, tn, W, rfl, by rw [← hG], by rw [← hG], by rw [← hG]; exact List.mem_singleton.mpr rfl, ⟨by rw [← hgo], ⟨_, _, by rw [← hgo]⟩, by rw [← hgo]⟩, ⟨⟨_, I5⟩, _, Array.getElem?_push_size .., fun s'' z => ?_⟩, fun H' s' I' => ?_⟩
    · refine ⟨rfl, ?_⟩
      have sg := seg_start (G := G) (A2 := X.A.in1.in1) (elt := elt) (tg := tg) (iter := iter) (scope := scope) (pos := gpos) (it := it) (fp := fp) (tn := tn) (J := J) (g := g) (te := te) (vs := own.map (·.2)) (σ0 := wipe σ (own.map (·.2))) (W := W) (d := d) (Qe := fun b H => Q (.bl b) H)
        (by rw [← hG]; exact hco) (by rw [← hG]) (by rw [← hG]) (by rw [← hG]) (by rw [← hG]; exact T) (by rw [← hG]; exact hg _ _ _ _ _ _ _ _) (by rw [← hG]; exact he _ _ _ _ _ _ _ _ (room_gen hr))
        (fun {H'} hn b hb => ⟨hn b hb, (I5.ok.exf b (by rw [← hG]; exact hb)).1, I5.ok.exfs b (by rw [← hG]; exact hb), .inl (by rw [← hG]; exact hb), fun x c e => (I5.ok.exf b (by rw [← hG]; exact hb)).2 x c e, fun p hp => by
          rw [← hG] at hp
          have hp : p ∈ [(h'.objs.size, gob)] ++ [] := hp
          rw [List.append_nil, List.mem_singleton] at hp
          rw [hp]
          have z2 := (f3 b hb).2
          exact fun z3 => by
            have z3 : h'.objs.size = b := z3
            rw [← z3, hszn] at z2
            exact absurd z2 (Nat.not_lt.mpr (Nat.le_succ _))⟩)
        turn m0 (m0 + 1) s'' s'' _ (Nat.lt_succ_self _) (inv_slp I5 z) (by
          rw [z.heap]
          exact T.keep _ _ _ st3 fun b hb o e => keep5 b o e) nfp w0
      rw [← hG] at sg ⊢
      exact sg
    · rw [← hG] at I'
      exact I3.call' (ch := fp) I'.os I'.base I'.hok I'.bare fun b hb => ⟨(f3 b hb).1.2.2.2.1, (f3 b hb).1.2.1, (f3 b hb).1.2.2.2.2.1, (f3 b hb).1.2.2.2.2.2⟩
  cases hf : codeAmong gpos ps.toList with
  | none =>
    refine wpAny_genexprCodeX hcode (cd.code hPs ht) (cd.tab hPs) hf fun c' h' tk hx hge hlt hco' _ htab' _ => ?_
    obtain ⟨o1, vs, f1, tf, fl, tg', inF, tx, tt, op, _, _, _, _, _, _, _, _, _, htr, _⟩ := hco'
    exact cont _ h' tk _ hx (Nat.le_trans hge (Nat.le_of_lt hlt)) htab'.2 ⟨_, rfl⟩ htr
  | some cv =>
    refine wpAny_genexprCode_hit hcode (cd.code hPs ht) hf ?_
    exact cont cv s2.heap s2.toks ps (Heap.ExtBut.refl _ _) (Nat.le_refl _) hPs ⟨#[], by simp⟩ ht

/-- all(elt for target in iter) -/
theorem pe_all {own : List (Str × Nat)} {c P : Addr} {elt tg iter : Expr} {p pos gpos : Pos} {scope : Scope} {wi : TI} {g : TG} {te : TE} {k : Nat}
    (hr : Room (k + 1) X.A) (hgl : Gl X "all") (hm : X.mg "all" = none) (TB : GxR.TabB X.base X.mg c P) (hcode : X.env.code = .ref c) (hN : X.N.Nodup) (ok : BlkOk X.N X.env.scope scope own)
    (hi : PI X tg iter wi) (hg : ∀ (s : Shared) (H : Hp) (C : Addr) (cl : List (Str × Addr)) (cd : Value) (fp : List Addr) (A' : Around) (pn : List (Addr × Obj)), PG (gx X s H (genEnv scope cl C cd builtinsNs X.env) fp A' pn) tg g)
    (he : ∀ (s : Shared) (H : Hp) (C : Addr) (cl : List (Str × Addr)) (cd : Value) (fp : List Addr) (A' : Around) (pn : List (Addr × Obj)), Room k A' → PE (gx X s H (genEnv scope cl C cd builtinsNs X.env) fp A' pn) elt te)
    (hco : scope.isCoroutine = false := by rfl) (hcell : ∀ y ∈ scope.names, y.2 ≠ .cell := by decide +kernel) (dot : scope.names.lookup (".0" : Str) = some NameKind.local := by rfl)
    (hs : ∀ v, genFold iter X.env v = pure v := by intro _; rfl) (hb : bootBuiltins "all" = some (.builtin "all") := by decide +kernel)
    (hst : starEach [.GeneratorExp elt [⟨tg, iter, [], 0⟩] scope gpos] X.env = (false, eval (.GeneratorExp elt [⟨tg, iter, [], 0⟩] scope gpos) X.env) :: starEach [] X.env := by rfl) :
    PE X (.Call (.Name "all" p) [.GeneratorExp elt [⟨tg, iter, [], 0⟩] scope gpos] [] pos) (tGx P true wi g te (own.map (·.2))) := by
  refine ⟨fun pins s σ H Q I h => ?_⟩
  refine wpAny_Call_Name_kw (ld_blt I hgl hm hb ?_)
  refine PyProof.Rows.callWith_builtin1 ?_ hst (by rfl)
  rw [hst]
  show wpAny _ _ (spliced ((false, eval (.GeneratorExp elt [⟨tg, iter, [], 0⟩] scope gpos) X.env) :: backTo pos (starEach [] X.env))) _ _ s
  refine Calls.spliced_cons (gen_make hr TB hcode hN ok hco hcell dot hi hg he hs I h fun u s' hR => ?_)
  refine Calls.spliced_nil ?_
  obtain ⟨G, a, ob, gN, n, σ0, fp, tn, W, rfl, hp, hw, hpn, hob, C, back⟩ := hR
  refine call_function_tree F.kind_all F.plain_all F.entry_all (F.args_all1 _) ?_
  unfold Builtin.«all»
  refine wpAny_bind (m := oneArg "all" _) (wpAny_pure ?_)
  obtain ⟨⟨H1, I1⟩, _⟩ := id C
  have hgen : s'.heap.IsGen a gN := by
    obtain ⟨e, _⟩ := I1.pin (a, ob) (List.mem_append_left _ hpn)
    obtain ⟨h1, ⟨nm, qn, h2⟩, h3⟩ := hob
    exact ⟨ob, nm, qn, e, h1, h2, h3⟩
  refine wpAny_bind (wpAny_pyIter_gen hgen ?_)
  refine wpAny_pure ⟨plainId_quiet F.plain_all_loop _, ?_⟩
  have hl := all_loop (A := X.A) (R := fun r s'' => ∃ b H', r = .ok (.ret (.bool b)) ∧ Inv X pins σ H' s'' ∧ Q (.bl b) H') hr.hd (by have := hr.dp; omega) hpn hob (fun b H' s'' I' q => ⟨b, H', rfl, back H' s'' I', q⟩) n s' C
  rw [hp, hw] at hl
  refine codeAny_mono hl fun r s'' hq => ?_
  obtain ⟨b, H', rfl, I', q⟩ := hq
  exact ⟨.bl b, H', I', rfl, q⟩
/-- any(elt for target in iter) -/
theorem pe_any {own : List (Str × Nat)} {c P : Addr} {elt tg iter : Expr} {p pos gpos : Pos} {scope : Scope} {wi : TI} {g : TG} {te : TE} {k : Nat}
    (hr : Room (k + 1) X.A) (hgl : Gl X "any") (hm : X.mg "any" = none) (TB : GxR.TabB X.base X.mg c P) (hcode : X.env.code = .ref c) (hN : X.N.Nodup) (ok : BlkOk X.N X.env.scope scope own)
    (hi : PI X tg iter wi) (hg : ∀ (s : Shared) (H : Hp) (C : Addr) (cl : List (Str × Addr)) (cd : Value) (fp : List Addr) (A' : Around) (pn : List (Addr × Obj)), PG (gx X s H (genEnv scope cl C cd builtinsNs X.env) fp A' pn) tg g)
    (he : ∀ (s : Shared) (H : Hp) (C : Addr) (cl : List (Str × Addr)) (cd : Value) (fp : List Addr) (A' : Around) (pn : List (Addr × Obj)), Room k A' → PE (gx X s H (genEnv scope cl C cd builtinsNs X.env) fp A' pn) elt te)
    (hco : scope.isCoroutine = false := by rfl) (hcell : ∀ y ∈ scope.names, y.2 ≠ .cell := by decide +kernel) (dot : scope.names.lookup (".0" : Str) = some NameKind.local := by rfl)
    (hs : ∀ v, genFold iter X.env v = pure v := by intro _; rfl) (hb : bootBuiltins "any" = some (.builtin "any") := by decide +kernel)
    (hst : starEach [.GeneratorExp elt [⟨tg, iter, [], 0⟩] scope gpos] X.env = (false, eval (.GeneratorExp elt [⟨tg, iter, [], 0⟩] scope gpos) X.env) :: starEach [] X.env := by rfl) :
    PE X (.Call (.Name "any" p) [.GeneratorExp elt [⟨tg, iter, [], 0⟩] scope gpos] [] pos) (tGx P false wi g te (own.map (·.2))) := by
  refine ⟨fun pins s σ H Q I h => ?_⟩
  refine wpAny_Call_Name_kw (ld_blt I hgl hm hb ?_)
  refine PyProof.Rows.callWith_builtin1 ?_ hst (by rfl)
  rw [hst]
  show wpAny _ _ (spliced ((false, eval (.GeneratorExp elt [⟨tg, iter, [], 0⟩] scope gpos) X.env) :: backTo pos (starEach [] X.env))) _ _ s
  refine Calls.spliced_cons (gen_make hr TB hcode hN ok hco hcell dot hi hg he hs I h fun u s' hR => ?_)
  refine Calls.spliced_nil ?_
  obtain ⟨G, a, ob, gN, n, σ0, fp, tn, W, rfl, hp, hw, hpn, hob, C, back⟩ := hR
  refine call_function_tree F.kind_any F.plain_any F.entry_any (F.args_any1 _) ?_
  unfold Builtin.«any»
  refine wpAny_bind (m := oneArg "any" _) (wpAny_pure ?_)
  obtain ⟨⟨H1, I1⟩, _⟩ := id C
  have hgen : s'.heap.IsGen a gN := by
    obtain ⟨e, _⟩ := I1.pin (a, ob) (List.mem_append_left _ hpn)
    obtain ⟨h1, ⟨nm, qn, h2⟩, h3⟩ := hob
    exact ⟨ob, nm, qn, e, h1, h2, h3⟩
  refine wpAny_bind (wpAny_pyIter_gen hgen ?_)
  refine wpAny_pure ⟨plainId_quiet F.plain_any_loop _, ?_⟩
  have hl := any_loop (A := X.A) (R := fun r s'' => ∃ b H', r = .ok (.ret (.bool b)) ∧ Inv X pins σ H' s'' ∧ Q (.bl b) H') hr.hd (by have := hr.dp; omega) hpn hob (fun b H' s'' I' q => ⟨b, H', rfl, back H' s'' I', q⟩) n s' C
  rw [hp, hw] at hl
  refine codeAny_mono hl fun r s'' hq => ?_
  obtain ⟨b, H', rfl, I', q⟩ := hq
  exact ⟨.bl b, H', I', rfl, q⟩
end

/-! ### what a turn is to bring, over the things one walks -/
theorem gturn_tup {K : PySem.W.Frag} {a : Addr} {xs : List V} {g : TG} {te : TE} {vs : List Nat} {σ0 : L2.St} {d : Bool} {Qe : Bool → Hp → Prop} {H : Hp} (Pv : Nat → Hp → Prop) (h0 : Pv 0 H) (hl : ∀ i H, Pv i H → SqT K H a xs)
    (hs : ∀ i x H, xs[i]? = some x → Pv i H → g x σ0 H fun σ2 H3 => wipe σ2 vs = σ0 ∧ te σ2 H3 fun y H4 => ∃ k, TruS y k ∧ if k = d then Pv (i + 1) H4 else Qe (!d) H4) (hd : ∀ H, Pv xs.length H → Qe d H) :
    ∃ W : Nat → Nat → Hp → Prop, (∃ m, W 0 m H) ∧ GTurn (Itt K a) g te vs σ0 W d Qe := by
  refine ⟨fun i m H => m + i = xs.length ∧ Pv i H, ⟨xs.length, rfl, h0⟩, ?_⟩
  rintro i m H ⟨hm, p⟩
  by_cases hlt : i < xs.length
  · refine .inr ⟨⟨xs, xs[i], hl i H p, List.getElem?_eq_getElem hlt⟩, Pv (i + 1), fun H' p' => ⟨m - 1, by omega, by omega, p'⟩, fun x H' y => ?_⟩
    obtain ⟨rfl, y⟩ := y
    exact hs i x _ (y xs (hl i _ p)) p
  · have e : i = xs.length := by omega
    rw [e] at p
    exact .inl ⟨⟨xs, hl _ H p, by omega⟩, hd H p⟩
theorem gturn_zipT {K : PySem.W.Frag} {a b : Addr} {xs ys : List V} {g : TG} {te : TE} {vs : List Nat} {σ0 : L2.St} {d : Bool} {Qe : Bool → Hp → Prop} {H : Hp} (Pv : Nat → Hp → Prop) (h0 : Pv 0 H) (hl : ∀ i H, Pv i H → SqT K H a xs ∧ SqT K H b ys)
    (hs : ∀ i x y T H, xs[i]? = some x → ys[i]? = some y → Pv i H → H T = none → g (.ref T) σ0 (upd H T (.tup [x, y])) fun σ2 H3 => wipe σ2 vs = σ0 ∧ te σ2 H3 fun v H4 => ∃ k, TruS v k ∧ if k = d then Pv (i + 1) H4 else Qe (!d) H4)
    (hd : ∀ i H, Pv i H → xs.length ≤ i ∨ ys.length ≤ i → Qe d H) :
    ∃ W : Nat → Nat → Hp → Prop, (∃ m, W 0 m H) ∧ GTurn (RZ.ItzT K a b) g te vs σ0 W d Qe := by
  refine ⟨fun i m H => xs.length ≤ m + i ∧ Pv i H, ⟨xs.length, Nat.le_refl _, h0⟩, ?_⟩
  rintro i m H ⟨hm, p⟩
  obtain ⟨q1, q2⟩ := hl i H p
  by_cases h1 : i < xs.length
  · by_cases h2 : i < ys.length
    · refine .inr ⟨⟨xs, ys, xs[i], ys[i], q1, q2, List.getElem?_eq_getElem h1, List.getElem?_eq_getElem h2⟩, Pv (i + 1), fun H' p' => ⟨m - 1, by omega, by omega, p'⟩, fun v H' y => ?_⟩
      obtain ⟨T, x, y', rfl, hT, rfl, f1, f2⟩ := y
      exact hs i x y' T H (f1 xs q1) (f2 ys q2) p hT
    · exact .inl ⟨⟨xs, ys, q1, q2, .inr (by omega)⟩, hd i H p (.inr (by omega))⟩
  · exact .inl ⟨⟨xs, ys, q1, q2, .inl (by omega)⟩, hd i H p (.inl (by omega))⟩

/-! ### a def whose code object is known -/
structure FunC (K : PySem.W.Frag) (x qual : Str) (st : Stmt) (f : Addr) (fd : FuncData) (c : Addr) : Prop where
  ex : ∃ (oc : Value) (od : Option Addr) (kV doc pm : Value) (an : Option Addr) (ct : Value) (osl : Array (Option Value)),
    fd = PySem.W.fnOf x qual (defArgs st) (defBody st) (defScope st) .none kV doc pm an (.ref c) ct ∧ K.lookup f = some ⟨oc, od, .func fd, osl⟩ ∧ PySem.W.codeIn K (.ref c) qual = true
  kp : PySem.W.keepIn K (.ref f) = true
section
variable {P : Program} {w : World} {K : PySem.W.Frag} {mg : Str → Option Value} {base : Heap}
theorem FunC.fun {x qual : Str} {st : Stmt} {f : Addr} {fd : FuncData} {c : Addr} (F : FunC K x qual st f fd c) : Fun K x qual st f fd :=
  ⟨let ⟨oc, od, kV, doc, pm, an, ct, osl, h⟩ := F.ex; ⟨oc, od, kV, doc, pm, an, .ref c, ct, osl, h⟩, F.kp⟩
theorem FunC.ok {x qual : Str} {st : Stmt} {f : Addr} {fd : FuncData} {c : Addr} {N ps : List Str} {k : Nat} {sp : Sp} (F : FunC K x qual st f fd c) (S : FnScope N ps (defScope st)) (len : ∀ vs H Q E, sp vs H Q E → vs.length = ps.length)
    (hbody : ∀ (A : Around) (outer : List Env) (s : Shared) (H : Hp) (vs : List V) (Q : VK) (E : XK), Room k (A.deeper (envOfC qual (defScope st) s.heap.objs.size f (.ref c))) → sp vs H Q E →
      ∃ t, PSs (cxOf CX0 P w K mg base N qual (defScope st) f (.ref c) A outer s H E).nox (defBody st) t ∧ t { nx := fun _ H' => Q .non H', rt := Q } (start N vs) H) : FnOk P w K mg base CX0 (k + 1) f fd ps sp := by
  obtain ⟨oc, od, kV, doc, pm, an, ct, osl, rfl, lk, hcd⟩ := F.ex
  refine fn_of lk hcd S len fun A outer s H vs Q E hr hsp => ?_
  obtain ⟨t, h, q⟩ := hbody A outer s H vs Q E hr hsp
  exact ⟨t, h.nox, q⟩
theorem func_mk {x qual : Str} {st : Stmt} {f c : Addr} {oc : Value} {od an : Option Addr} {osl : Array (Option Value)} {kV doc pm ct : Value} (l : K.lookup f = some ⟨oc, od, .func (PySem.W.fnOf x qual (defArgs st) (defBody st) (defScope st) .none kV doc pm an (.ref c) ct), osl⟩)
    (cc : PySem.W.codeIn K (.ref c) qual = true) (k : PySem.W.keepIn K (.ref f) = true) : FunC K x qual st f (PySem.W.fnOf x qual (defArgs st) (defBody st) (defScope st) .none kV doc pm an (.ref c) ct) c := ⟨⟨oc, od, kV, doc, pm, an, ct, osl, rfl, l, cc⟩, k⟩
end
end GX

/-! what a caller knows of a def; the heap's growth; the almanac and the story as they stand in the heap -/
namespace WC
open PySem PySem.Spec PyProof.Rows L2
/-- a def of the module, by its name: what it promises -/
def Cal (P : Program) (w : World) (K : PySem.W.Frag) (mg : Str → Option Value) (base : Heap) (k : Nat) (x : Str) (ps : List Str) (sp : Sp) : Prop :=
  ∃ f fd, mg x = some (.ref f) ∧ FnOk P w K mg base CX0 k f fd ps sp ∧ PySem.W.keepIn K (.ref f) = true ∧ Binds K fd ps []
section
variable {P : Program} {w : World} {K : PySem.W.Frag} {mg : Str → Option Value} {base : Heap}
theorem pe_cal {X : Cx} {k : Nat} {x : Str} {ps : List Str} {sp : Sp} {t : TA} {e : Expr} {es : List Expr} {p pos : Pos} (C : Cal X.prog X.w X.K X.mg X.base k x ps sp) (hr : Room k X.A) (hg : Gl X x) (ha : PA X (e :: es) t)
    (hdb : (x == ("__debug__" : Str)) = false := by decide) (he : starEach (e :: es) X.env = (false, eval e X.env) :: starEach es X.env := by rfl) (hpl : (backTo pos (starEach es X.env)).any (·.1) = false := by rfl) :
    PE X (.Call (.Name x p) (e :: es) [] pos) (tCall sp [] E0 t) := by
  obtain ⟨f, fd, h1, h2, h3, h4⟩ := C
  exact pe_call h2 hr hg h1 h3 h4 .nil pass0 ha hdb he hpl
theorem Cal.mono {j k : Nat} {x : Str} {ps : List Str} {sp : Sp} (C : Cal P w K mg base j x ps sp) (h : j ≤ k) : Cal P w K mg base k x ps sp :=
  let ⟨f, fd, h1, h2, h3, h4⟩ := C
  ⟨f, fd, h1, h2.mono h, h3, h4⟩
theorem Cal.imp {k : Nat} {x : Str} {ps : List Str} {sp sp' : Sp} (C : Cal P w K mg base k x ps sp) (h : ∀ vs H Q E, sp' vs H Q E → sp vs H Q E) : Cal P w K mg base k x ps sp' :=
  let ⟨f, fd, h1, h2, h3, h4⟩ := C
  ⟨f, fd, h1, h2.imp h, h3, h4⟩
/-- a def by its body; its code object is the one that the head knows -/
theorem fnok_of {x : Str} {pa : Arguments} {bd : List Stmt} {sc : Scope} {N ps : List Str} {k : Nat} {sp : Sp} {fd : FuncData} (F : FunD K x x pa bd sc [] [] (He.fAd K (x, none)) fd) (S : FnScope N ps sc)
    (len : ∀ vs H Q E, sp vs H Q E → vs.length = ps.length)
    (hbody : ∀ (A : Around) (outer : List Env) (s : Shared) (H : Hp) (vs : List V) (Q : VK) (E : XK), Room k (A.deeper (envOfC x sc s.heap.objs.size (He.fAd K (x, none)) (.ref (He.codeOf K (x, none))))) → sp vs H Q E →
      ∃ t, PSs (cxOf CX0 P w K mg base N x sc (He.fAd K (x, none)) (.ref (He.codeOf K (x, none))) A outer s H E).nox bd t ∧ t { nx := fun _ H' => Q .non H', rt := Q } (start N vs) H) : FnOk P w K mg base CX0 (k + 1) (He.fAd K (x, none)) fd ps sp := by
  obtain ⟨oc, od, dV, kV, doc, pm, an, cdv, ct, osl, rfl, lk, hcd, hD, hK⟩ := id F.ex
  obtain ⟨c, rfl⟩ := He.codeIn_ref hcd
  have ec : He.codeOf K (x, none) = c := He.codeOf_eq lk rfl
  refine fn_of lk hcd S len fun A outer s H vs Q E hr hsp => ?_
  rw [ec] at hbody
  obtain ⟨t, h, q⟩ := hbody A outer s H vs Q E hr hsp
  exact ⟨t, h.nox, q⟩
theorem cal_of {x : Str} {pa : Arguments} {bd : List Stmt} {sc : Scope} {N ps : List Str} {k : Nat} {sp : Sp} (F : ∃ fd, FunD K x x pa bd sc [] [] (He.fAd K (x, none)) fd) (g : mg x = some (.ref (He.fAd K (x, none)))) (S : FnScope N ps sc)
    (hb : ∀ (kV doc pm : Value) (an : Option Addr) (cdv ct : Value) (us : List Value), us.length = ps.length → bindArgs (PySem.W.fnOf x x pa bd sc .none kV doc pm an cdv ct) ⟨us, []⟩ = pure (ps.zip us))
    (len : ∀ vs H Q E, sp vs H Q E → vs.length = ps.length)
    (hbody : ∀ (A : Around) (outer : List Env) (s : Shared) (H : Hp) (vs : List V) (Q : VK) (E : XK), Room k (A.deeper (envOfC x sc s.heap.objs.size (He.fAd K (x, none)) (.ref (He.codeOf K (x, none))))) → sp vs H Q E →
      ∃ t, PSs (cxOf CX0 P w K mg base N x sc (He.fAd K (x, none)) (.ref (He.codeOf K (x, none))) A outer s H E).nox bd t ∧ t { nx := fun _ H' => Q .non H', rt := Q } (start N vs) H) : Cal P w K mg base (k + 1) x ps sp := by
  obtain ⟨fd, F⟩ := F
  exact ⟨_, fd, g, fnok_of F S len hbody, F.kp, F.bindsN hb⟩
end

/-! ### the heap grows -/
def Tb (T : List Addr) (H : Hp) : Prop := ∀ P ∈ T, GxR.TabG H P
/-- all that stood stands; the tables at T may have grown -/
structure Go (T : List Addr) (H H' : Hp) : Prop where
  t0 : Tb T H
  t1 : Tb T H'
  keep : ∀ b o, H b = some o → H' b = some o ∨ b ∈ T
section
variable {T : List Addr} {H H1 H2 : Hp} {K : PySem.W.Frag}
theorem Go.refl (t : Tb T H) : Go T H H := ⟨t, t, fun _ _ e => .inl e⟩
theorem Go.trans (a : Go T H H1) (b : Go T H1 H2) : Go T H H2 := ⟨a.t0, b.t1, fun c o e => (a.keep c o e).elim (fun z => b.keep c o z) .inr⟩
theorem Go.new {p : Addr} {o : HO} (t : Tb T H) (h : H p = none) : Go T H (upd H p o) := by
  refine ⟨t, fun P hP => ?_, fun b u e => .inl ?_⟩
  · obtain ⟨ps, e, q⟩ := t P hP
    exact ⟨ps, by rw [upd_ne (ne_of_none e h)]; exact e, q⟩
  · rw [upd_ne (ne_of_none e h)]
    exact e
theorem Go.tab {P : Addr} (t : Tb T H) (hP : P ∈ T) (z : GxR.Tabbed P H H1) : Go T H H1 := by
  refine ⟨t, fun Q hQ => ?_, fun b u e => ?_⟩
  · by_cases e : Q = P
    · rw [e]
      exact z.1
    · obtain ⟨ps, e1, q⟩ := t Q hQ
      exact ⟨ps, by rw [z.2 Q e]; exact e1, q⟩
  · by_cases e1 : b = P
    · exact .inr (by rw [e1]; exact hP)
    · exact .inl (by rw [z.2 b e1]; exact e)
/-- what is no table stands -/
theorem Go.at {b : Addr} {o : HO} (g : Go T H H1) (e : H b = some o) (n : ∀ ps, o ≠ .tbl ps) : H1 b = some o := by
  rcases g.keep b o e with z | z
  · exact z
  · obtain ⟨ps, e1, _⟩ := g.t0 b z
    rw [e] at e1
    exact (n ps (Option.some.inj e1)).elim
theorem Go.free {b : Addr} (g : Go T H H1) (e : H1 b = none) : H b = none := by
  cases q : H b with
  | none => rfl
  | some o =>
    rcases g.keep b o q with z | z
    · rw [z] at e
      cases e
    · obtain ⟨ps, e1, _⟩ := g.t1 b z
      rw [e1] at e
      cases e
theorem Go.lst {b : Addr} {xs : List V} (g : Go T H H1) (e : H b = some (.lst xs)) : H1 b = some (.lst xs) := g.at e fun _ z => by cases z
theorem Go.tup {b : Addr} {xs : List V} (g : Go T H H1) (e : H b = some (.tup xs)) : H1 b = some (.tup xs) := g.at e fun _ z => by cases z
theorem Go.sqT {a : Addr} {xs : List V} (g : Go T H H1) (h : SqT K H a xs) : SqT K H1 a xs := by
  rcases h with (h | ⟨o, h⟩) | h
  · exact .inl (.inl (g.tup h))
  · exact .inl (.inr ⟨o, g.at h fun _ z => by cases z⟩)
  · exact .inr h
theorem Go.sqL {a : Addr} {xs : List V} (g : Go T H H1) (h : SqL K H a xs) : SqL K H1 a xs := by
  rcases h with (h | ⟨o, h⟩) | h
  · exact .inl (.inl (g.lst h))
  · exact .inl (.inr ⟨o, g.at h fun _ z => by cases z⟩)
  · exact .inr h
end
/-- the type of a tuple, of a list that is read -/
theorem tyT {K : PySem.W.Frag} {H : Hp} {a : Addr} {xs : List V} (h : SqT K H a xs) : TyX K H (.ref a) (.type "tuple") := by
  rcases h with (h | ⟨o, h⟩) | ⟨o, its, n, h1, h2, _⟩
  · exact .base (.tup h)
  · exact .fTuple h
  · exact .kTuple h1 h2
theorem tyL {K : PySem.W.Frag} {H : Hp} {a : Addr} {xs : List V} (h : SqL K H a xs) : TyX K H (.ref a) (.type "list") := by
  rcases h with (h | ⟨o, h⟩) | ⟨o, its, n, h1, h2, _⟩
  · exact .base (.lst h)
  · exact .base (.frz h)
  · exact .kList h1 h2
abbrev vi (ns : List Int) : List V := ns.map V.int
theorem vi_get {ns : List Int} {i : Nat} {x : V} (h : (vi ns)[i]? = some x) : ∃ n, ns[i]? = some n ∧ x = .int n := by
  rw [List.getElem?_map] at h
  cases e : ns[i]? with
  | none => rw [e] at h; cases h
  | some n => rw [e] at h; exact ⟨n, rfl, (Option.some.inj h).symm⟩
theorem vi_at {ns : List Int} {i : Nat} {n : Int} (h : ns[i]? = some n) : (vi ns)[i]? = some (.int n) := by
  rw [List.getElem?_map, h]
  rfl
end WC

/-! the almanac and the story: plain, and as they stand in the heap -/
namespace WC
open PySem PySem.Spec PyProof.Rows L2
/-- ascending -/
def Asc (ns : List Int) : Prop := ∀ j x y, ns[j]? = some x → ns[j + 1]? = some y → x < y
structure Alm where
  hours : Int
  first : Int
  last : Int
  soon : Int
  late : Int
  sets : List Int
  rest : Int
structure Alm.Ok (A : Alm) : Prop where
  hours : 2 ≤ A.hours ∧ A.hours ≤ 12
  first : 0 ≤ A.first ∧ A.first ≤ A.hours - 1
  last : A.first ≤ A.last ∧ A.last ≤ A.first + A.hours - 1
  soon : 1 ≤ A.soon ∧ A.soon ≤ 24
  late : A.soon ≤ A.late ∧ A.late ≤ 24
  few : A.sets.length ≤ 4
  sets : ∀ x ∈ A.sets, (1 - A.hours ≤ x ∧ x ≤ A.hours - 1) ∧ x ≠ 0
  asc : Asc A.sets
  rest : 1 ≤ A.rest ∧ A.rest ≤ 12
def AlmAt (K : PySem.W.Frag) (H : Hp) (a : Addr) (A : Alm) : Prop :=
  ∃ s : Addr, SqT K H a [.int A.hours, .int A.first, .int A.last, .int A.soon, .int A.late, .ref s, .int A.rest] ∧ SqT K H s (vi A.sets)
/-- pairs of ints, each a tuple of its own -/
def PairsAt (K : PySem.W.Frag) (H : Hp) (a : Addr) (ps : List (Int × Int)) : Prop :=
  ∃ rs : List Addr, SqT K H a (rs.map V.ref) ∧ rs.length = ps.length ∧ ∀ (i : Nat) (r : Addr) (p : Int × Int), rs[i]? = some r → ps[i]? = some p → SqT K H r [.int p.1, .int p.2]
def StoryAt (K : PySem.W.Frag) (H : Hp) (a : Addr) (ws : List Int) (ps : List (Int × Int)) : Prop :=
  ∃ x y : Addr, SqT K H a [.ref x, .ref y] ∧ SqT K H x (vi ws) ∧ PairsAt K H y ps
section
variable {T : List Addr} {H H1 : Hp} {K : PySem.W.Frag} {a : Addr}
theorem Go.alm {A : Alm} (g : Go T H H1) (h : AlmAt K H a A) : AlmAt K H1 a A := let ⟨s, h1, h2⟩ := h; ⟨s, g.sqT h1, g.sqT h2⟩
theorem Go.pairs {ps : List (Int × Int)} (g : Go T H H1) (h : PairsAt K H a ps) : PairsAt K H1 a ps := let ⟨rs, h1, h2, h3⟩ := h; ⟨rs, g.sqT h1, h2, fun i r p e1 e2 => g.sqT (h3 i r p e1 e2)⟩
theorem Go.story {ws : List Int} {ps : List (Int × Int)} (g : Go T H H1) (h : StoryAt K H a ws ps) : StoryAt K H1 a ws ps := let ⟨x, y, h1, h2, h3⟩ := h; ⟨x, y, g.sqT h1, g.sqT h2, g.pairs h3⟩
end
theorem eqV_int (a b : Int) : eqV (.int a) (.int b) = decide (a = b) := by
  first
    | rfl
    | (unfold eqV; simp)
    | simp [eqV]
theorem inV_int (x : Int) (ns : List Int) : inV (.int x) (vi ns) = decide (x ∈ ns) := by
  unfold inV
  induction ns with
  | nil => simp
  | cons n r ih =>
    rw [show vi (n :: r) = .int n :: vi r from rfl, List.any_cons, ih, eqV_int]
    by_cases h : n = x
    · simp [h]
    · by_cases h2 : x ∈ r <;> simp [h, h2, Ne.symm h, eq_comm]
theorem flat_vi (ns : List Int) : (vi ns).all flatV = true := by
  rw [List.all_eq_true]
  intro x hx
  obtain ⟨n, _, e⟩ := List.mem_map.mp hx
  rw [← e]
  rfl
/-- the settings of a story -/
def setsOk (A : Alm) (lw : Int) : Int → List (Int × Int) → Bool
  | _, [] => true
  | f, (h, x) :: r => decide (f ≤ h ∧ h ≤ lw) && decide (x ∈ A.sets) && setsOk A lw (h + A.rest) r
theorem setsOk_cons (A : Alm) (lw f h x : Int) (r : List (Int × Int)) : setsOk A lw f ((h, x) :: r) = (decide (f ≤ h ∧ h ≤ lw) && decide (x ∈ A.sets) && setsOk A lw (h + A.rest) r) := rfl
def gapsOk (A : Alm) (ws : List Int) : Prop := ∀ j x y, ws[j]? = some x → ws[j + 1]? = some y → A.soon ≤ y - x ∧ y - x ≤ A.late
/-- a story that may be passed -/
structure StoryOk (A : Alm) (ws : List Int) (ps : List (Int × Int)) : Prop where
  few : 1 ≤ ws.length ∧ ws.length ≤ 60
  start : ws[0]? = some 0
  gaps : gapsOk A ws
  sets : ∀ l, ws.getLast? = some l → setsOk A l 1 ps = true
/-- a list of one's own, new behind H, is written -/
theorem Go.own {T : List Addr} {H H1 : Hp} {D : Addr} {xs ys : List V} (g : Go T H H1) (n : H D = none) (e : H1 D = some (.lst xs)) : Go T H (upd H1 D (.lst ys)) := by
  refine ⟨g.t0, fun P hP => ?_, fun b o eb => ?_⟩
  · obtain ⟨ps, e1, q⟩ := g.t1 P hP
    refine ⟨ps, ?_, q⟩
    rw [upd_ne (ne_of e1 e fun z => by cases z)]
    exact e1
  · rcases g.keep b o eb with z | z
    · exact .inl (by rw [upd_ne (ne_of_none eb n)]; exact z)
    · exact .inr z
/-- t[1:] -/
theorem sl1 {K : PySem.W.Frag} {T : List Addr} {σ : L2.St} {H : Hp} {a : Addr} {xs : List V} {Q : VK} (tb : Tb T H) (hS : SqT K H a xs) (h : ∀ b H1, Go T H H1 → SqT K H1 b (xs.drop 1) → Q (.ref b) H1) : tNoPart σ H fun u H3 => rSlA K (.ref a) (some 1) u H3 Q := by
  show rSlA K (.ref a) (some 1) none H Q
  refine ⟨a, xs, rfl, hS, fun hw => ?_, fun hw p np => ?_⟩
  · have e0 : xs = [] := by
      have z := hw.1
      rw [show HT.sIx xs.length 0 (some 1) = min 1 xs.length from HT.sIx_nat _ 0 1] at z
      exact List.length_eq_zero_iff.mp (by omega)
    subst e0
    exact h a H (Go.refl tb) hS
  · have e1 : cutV xs (some 1) none = xs.drop 1 := by
      unfold cutV
      rw [show HT.sIx xs.length 0 (some 1) = min 1 xs.length from HT.sIx_nat _ 0 1, HT.sIx_none]
      cases xs with
      | nil => rfl
      | cons x r =>
        rw [show min 1 (x :: r).length = 1 by rw [List.length_cons]; omega]
        show List.take ((x :: r).length - 1) r = r
        exact List.take_of_length_le (by rw [List.length_cons]; omega)
    rw [e1]
    exact h p _ (Go.new tb np) (SqT.of upd_same)
/-! ### what the clock shows -/
/-- how many settings stand ahead of (or at) a waking -/
def stopAt (ps : List (Int × Int)) (w : Int) : Nat := (ps.takeWhile fun p => decide (p.1 ≤ w)).length
def errAt (ps : List (Int × Int)) (w : Int) : Int := ((ps.take (stopAt ps w)).map (·.2)).sum
def shownL (h : Int) (ps : List (Int × Int)) (ws : List Int) : List Int := ws.map fun w => (w + errAt ps w) % h
theorem stop_le (ps : List (Int × Int)) (w : Int) : stopAt ps w ≤ ps.length := by
  unfold stopAt
  induction ps with
  | nil => simp
  | cons p r ih =>
    rw [List.takeWhile_cons]
    split
    · simp only [List.length_cons]; omega
    · simp
theorem stop_mono {w w' : Int} (h : w ≤ w') : ∀ ps : List (Int × Int), stopAt ps w ≤ stopAt ps w'
  | [] => Nat.le_refl _
  | p :: r => by
    have ih := stop_mono h r
    unfold stopAt at ih ⊢
    rw [List.takeWhile_cons, List.takeWhile_cons]
    by_cases h1 : p.1 ≤ w
    · rw [if_pos (decide_eq_true h1), if_pos (decide_eq_true (Int.le_trans h1 h))]
      simp only [List.length_cons]; omega
    · rw [if_neg (by simpa using h1)]
      exact Nat.zero_le _
theorem stop_step {w : Int} : ∀ {ps : List (Int × Int)} {k : Nat} {p : Int × Int}, ps[k]? = some p → (k < stopAt ps w → p.1 ≤ w) ∧ (k = stopAt ps w → ¬ p.1 ≤ w)
  | [], _, _, h => by simp at h
  | q :: r, 0, p, h => by
    have e : q = p := by simpa using h
    subst e
    unfold stopAt
    rw [List.takeWhile_cons]
    by_cases h1 : q.1 ≤ w
    · rw [if_pos (decide_eq_true h1)]
      exact ⟨fun _ => h1, fun z => by simp at z⟩
    · rw [if_neg (by simpa using h1)]
      exact ⟨fun z => by simp at z, fun _ => h1⟩
  | q :: r, k + 1, p, h => by
    have ih := stop_step (w := w) (ps := r) (k := k) (p := p) (by simpa using h)
    unfold stopAt at ih ⊢
    rw [List.takeWhile_cons]
    by_cases h1 : q.1 ≤ w
    · rw [if_pos (decide_eq_true h1)]
      simp only [List.length_cons]
      exact ⟨fun z => ih.1 (by omega), fun z => ih.2 (by omega)⟩
    · rw [if_neg (by simpa using h1)]
      exact ⟨fun z => by simp at z, fun z => by simp at z⟩
theorem take_sum {ps : List (Int × Int)} {k : Nat} {p : Int × Int} (h : ps[k]? = some p) : ((ps.take (k + 1)).map (·.2)).sum = ((ps.take k).map (·.2)).sum + p.2 := by
  rw [List.take_add_one, h]
  simp [List.map_append, List.sum_append]
theorem two_line : (2 : Nat) ≤ sizeLine := by decide
theorem iteNT {A B : Prop} (h : B) : if (!true) = true then A else B := by
  rw [if_neg (by decide)]
  exact h
theorem iteNF {A B : Prop} (h : A) : if (!false) = true then A else B := by
  rw [if_pos (by decide)]
  exact h
/-- t + (y,) -/
theorem cat1 {K : PySem.W.Frag} {T : List Addr} {H : Hp} {a b : Addr} {xs : List V} {y : V} {Q : VK} (tb : Tb T H) (ha : SqT K H a xs) (hb : SqT K H b [y]) (hl : xs.length < 1000000) (h : ∀ p H1, Go T H H1 → SqT K H1 p (xs ++ [y]) → Q (.ref p) H1) : rCatA K (.ref a) (.ref b) H Q := by
  refine ⟨a, b, xs, [y], rfl, rfl, ha, hb, ?_, fun e => ?_, fun _ e => (by cases e), fun _ _ p np => ?_⟩
  · have : sizeLine = 16777216 := sizeLine_eq
    rw [List.length_singleton]
    omega
  · subst e
    exact h b H (Go.refl tb) hb
  · exact h p _ (Go.new tb np) (SqT.of upd_same)
theorem PairsAt.snoc {K : PySem.W.Frag} {H : Hp} {a p r : Addr} {ps : List (Int × Int)} {rs : List Addr} {x y : Int} (hl : rs.length = ps.length) (h : ∀ (i : Nat) (r : Addr) (p : Int × Int), rs[i]? = some r → ps[i]? = some p → SqT K H r [.int p.1, .int p.2])
    (hp : SqT K H p (rs.map V.ref ++ [.ref r])) (hr : SqT K H r [.int x, .int y]) : PairsAt K H p (ps ++ [(x, y)]) := by
  refine ⟨rs ++ [r], by rw [List.map_append]; exact hp, by rw [List.length_append, List.length_append, hl]; rfl, fun i r' p' h1 h2 => ?_⟩
  by_cases hi : i < rs.length
  · rw [List.getElem?_append_left hi] at h1
    rw [List.getElem?_append_left (by omega)] at h2
    exact h i r' p' h1 h2
  · rw [List.getElem?_append_right (by omega)] at h1 h2
    have e : i - rs.length = 0 := by
      rcases Nat.eq_zero_or_pos (i - rs.length) with z | z
      · exact z
      · rw [List.getElem?_eq_none (by simp only [List.length_singleton]; omega)] at h1
        cases h1
    rw [e] at h1
    rw [show i - ps.length = 0 by omega] at h2
    have e1 : r = r' := by simpa using h1
    have e2 : (x, y) = p' := by simpa using h2
    rw [← e1, ← e2]
    exact hr
theorem iteD {c A B : Prop} [Decidable c] (hc : c) (h : A) : if decide c = true then A else B := by
  rw [decide_eq_true hc, if_pos rfl]
  exact h
theorem iteDN {c A B : Prop} [Decidable c] (hc : ¬ c) (h : B) : if decide c = true then A else B := by
  rw [decide_eq_false hc, if_neg Bool.false_ne_true]
  exact h
theorem iteNN {c A B : Prop} [Decidable c] (hc : ¬ c) (h : A) : if (!decide c) = true then A else B := by
  rw [decide_eq_false hc]
  exact h
/-! ### what the law reads -/
def sumF (ps : List (Int × Int)) (w : Int) : Int := ((ps.filter fun p => decide (p.1 ≤ w)).map (·.2)).sum
def readL (h : Int) (ps : List (Int × Int)) (ws : List Int) : List Int := ws.map fun w => (w + sumF ps w) % h
/-- the settings stand in order -/
def Sorted (ps : List (Int × Int)) : Prop := ps.Pairwise fun p q => p.1 < q.1
theorem setsOk_low {A : Alm} (ok : A.Ok) {lw : Int} : ∀ {ps : List (Int × Int)} {f : Int}, setsOk A lw f ps = true → ∀ p ∈ ps, f ≤ p.1
  | [], _, _, p, hp => by simp at hp
  | (g, y) :: r, f, h0, p, hp => by
    rw [setsOk_cons] at h0
    simp only [Bool.and_eq_true, decide_eq_true_eq] at h0
    have hr := ok.rest
    rcases List.mem_cons.mp hp with e | hp
    · rw [e]
      exact h0.1.1.1
    · have := setsOk_low ok h0.2 p hp
      omega
theorem setsOk_sorted {A : Alm} (ok : A.Ok) {lw : Int} : ∀ {ps : List (Int × Int)} {f : Int}, setsOk A lw f ps = true → Sorted ps
  | [], _, _ => .nil
  | (g, y) :: r, f, h0 => by
    have h1 := h0
    rw [setsOk_cons] at h1
    simp only [Bool.and_eq_true, decide_eq_true_eq] at h1
    have hr := ok.rest
    refine .cons (fun p hp => ?_) (setsOk_sorted ok h1.2)
    have := setsOk_low ok h1.2 p hp
    show g < p.1
    omega
theorem sum_sorted {w : Int} : ∀ {ps : List (Int × Int)}, Sorted ps → errAt ps w = sumF ps w
  | [], _ => rfl
  | p :: r, h => by
    have ih := sum_sorted (w := w) (List.pairwise_cons.mp h).2
    have hp := (List.pairwise_cons.mp h).1
    unfold errAt stopAt sumF at ih ⊢
    rw [List.takeWhile_cons, List.filter_cons]
    by_cases h1 : p.1 ≤ w
    · rw [if_pos (decide_eq_true h1), if_pos (decide_eq_true h1)]
      rw [List.length_cons, List.take_succ_cons, List.map_cons, List.map_cons, List.sum_cons, List.sum_cons, ih]
    · rw [if_neg (by simpa using h1), if_neg (by simpa using h1)]
      have e : r.filter (fun p => decide (p.1 ≤ w)) = [] := by
        rw [List.filter_eq_nil_iff]
        intro q hq
        have := hp q hq
        simp only [decide_eq_true_eq]
        omega
      rw [e]
      rfl
/-- the clock shows what the law reads -/
theorem shown_read {A : Alm} (ok : A.Ok) {ws : List Int} {ps : List (Int × Int)} (h : StoryOk A ws ps) : shownL A.hours ps ws = readL A.hours ps ws := by
  obtain ⟨l, hl⟩ : ∃ l, ws.getLast? = some l := by
    cases e : ws.getLast? with
    | none =>
      have z2 := h.few.1
      rw [List.getLast?_eq_none_iff.mp e] at z2
      exact absurd z2 (by decide)
    | some l => exact ⟨l, rfl⟩
  have hs := setsOk_sorted ok (h.sets l hl)
  unfold shownL readL
  refine List.map_congr_left fun w _ => ?_
  rw [sum_sorted hs]
end WC

/-! the law's row: the script, a place, a seed, a rest -/
namespace WC
open PySem PySem.Spec PyProof.Rows L2
abbrev rowO (sc : Addr) (i s c : Int) : HO := .lst [.ref sc, .int i, .int s, .int c]
structure RowAt (K : PySem.W.Frag) (H : Hp) (r sc : Addr) (ns : List Int) : Prop where
  at_ : ∃ i s c, H r = some (rowO sc i s c) ∧ 0 ≤ i ∧ 0 ≤ s ∧ 0 ≤ c
  scr : SqL K H sc (vi ns)
/-- the row may have changed, the tables may have grown; all else stands -/
structure Gw (T : List Addr) (r : Addr) (H H' : Hp) : Prop where
  t0 : Tb T H
  t1 : Tb T H'
  r0 : ∃ xs, H r = some (.lst xs)
  r1 : ∃ xs, H' r = some (.lst xs)
  keep : ∀ b o, H b = some o → H' b = some o ∨ b ∈ T ∨ b = r
section
variable {T : List Addr} {r : Addr} {H H1 H2 : Hp} {K : PySem.W.Frag}
theorem Gw.refl (t : Tb T H) (h : ∃ xs, H r = some (.lst xs)) : Gw T r H H := ⟨t, t, h, h, fun _ _ e => .inl e⟩
theorem Gw.trans (a : Gw T r H H1) (b : Gw T r H1 H2) : Gw T r H H2 := ⟨a.t0, b.t1, a.r0, b.r1, fun c o e => (a.keep c o e).elim (fun z => b.keep c o z) .inr⟩
theorem Gw.of (g : Go T H H1) (h : ∃ xs, H r = some (.lst xs)) : Gw T r H H1 := ⟨g.t0, g.t1, h, let ⟨xs, e⟩ := h; ⟨xs, g.lst e⟩, fun b o e => (g.keep b o e).elim .inl fun z => .inr (.inl z)⟩
theorem Gw.row {sc : Addr} {i s c : Int} (t : Tb T H) (h : ∃ xs, H r = some (.lst xs)) : Gw T r H (upd H r (rowO sc i s c)) := by
  refine ⟨t, fun P hP => ?_, h, ⟨_, upd_same⟩, fun b o e => ?_⟩
  · obtain ⟨ps, e, q⟩ := t P hP
    obtain ⟨xs, e2⟩ := h
    refine ⟨ps, ?_, q⟩
    rw [upd_ne (ne_of e e2 fun z => by cases z)]
    exact e
  · by_cases hb : b = r
    · exact .inr (.inr hb)
    · exact .inl (by rw [upd_ne hb]; exact e)
theorem Gw.at {b : Addr} {o : HO} (g : Gw T r H H1) (e : H b = some o) (n : ∀ ps, o ≠ .tbl ps) (n2 : ∀ xs, o ≠ .lst xs) : H1 b = some o := by
  rcases g.keep b o e with z | z | z
  · exact z
  · obtain ⟨ps, e1, _⟩ := g.t0 b z
    rw [e] at e1
    exact (n ps (Option.some.inj e1)).elim
  · obtain ⟨xs, e1⟩ := g.r0
    rw [z, e1] at e
    exact (n2 xs (Option.some.inj e).symm).elim
theorem Gw.free {b : Addr} (g : Gw T r H H1) (e : H1 b = none) : H b = none := by
  cases q : H b with
  | none => rfl
  | some o =>
    rcases g.keep b o q with z | z | z
    · rw [z] at e
      cases e
    · obtain ⟨ps, e1, _⟩ := g.t1 b z
      rw [e1] at e
      cases e
    · obtain ⟨xs, e1⟩ := g.r1
      rw [z, e1] at e
      cases e
theorem Gw.lst {b : Addr} {xs : List V} (g : Gw T r H H1) (e : H b = some (.lst xs)) (hb : b ≠ r) : H1 b = some (.lst xs) := by
  rcases g.keep b _ e with z | z | z
  · exact z
  · obtain ⟨ps, e1, _⟩ := g.t0 b z
    rw [e] at e1
    cases e1
  · exact (hb z).elim
theorem Gw.sqT {a : Addr} {xs : List V} (g : Gw T r H H1) (h : SqT K H a xs) : SqT K H1 a xs := by
  rcases h with (h | ⟨o, h⟩) | h
  · exact .inl (.inl (g.at h (fun _ z => by cases z) fun _ z => by cases z))
  · exact .inl (.inr ⟨o, g.at h (fun _ z => by cases z) fun _ z => by cases z⟩)
  · exact .inr h
theorem Gw.sqL {a : Addr} {xs : List V} (g : Gw T r H H1) (h : SqL K H a xs) (ha : H a = some (.lst xs) → a ≠ r) : SqL K H1 a xs := by
  rcases h with (h | ⟨o, h⟩) | h
  · exact .inl (.inl (g.lst h (ha h)))
  · exact .inl (.inr ⟨o, g.at h (fun _ z => by cases z) fun _ z => by cases z⟩)
  · exact .inr h
theorem Gw.alm {a : Addr} {A : Alm} (g : Gw T r H H1) (h : AlmAt K H a A) : AlmAt K H1 a A := let ⟨s, h1, h2⟩ := h; ⟨s, g.sqT h1, g.sqT h2⟩
theorem Gw.pairs {a : Addr} {ps : List (Int × Int)} (g : Gw T r H H1) (h : PairsAt K H a ps) : PairsAt K H1 a ps := let ⟨rs, h1, h2, h3⟩ := h; ⟨rs, g.sqT h1, h2, fun i r p e1 e2 => g.sqT (h3 i r p e1 e2)⟩
theorem Gw.story {a : Addr} {ws : List Int} {ps : List (Int × Int)} (g : Gw T r H H1) (h : StoryAt K H a ws ps) : StoryAt K H1 a ws ps := let ⟨x, y, h1, h2, h3⟩ := h; ⟨x, y, g.sqT h1, g.sqT h2, g.pairs h3⟩
theorem Gw.new {p : Addr} {o : HO} (t : Tb T H) (h : ∃ xs, H r = some (.lst xs)) (n : H p = none) : Gw T r H (upd H p o) := Gw.of (Go.new t n) h
theorem RowAt.lst {sc : Addr} {ns : List Int} (R : RowAt K H r sc ns) : ∃ xs, H r = some (.lst xs) := let ⟨i, s, c, e, _⟩ := R.at_; ⟨_, e⟩
theorem RowAt.ne {sc : Addr} {ns : List Int} (R : RowAt K H r sc ns) : H sc = some (.lst (vi ns)) → sc ≠ r := fun h e => by
  obtain ⟨i, s, c, e1, _⟩ := R.at_
  rw [e, e1] at h
  have h2 : [V.ref sc, .int i, .int s, .int c] = vi ns := HO.lst.inj (Option.some.inj h)
  cases ns with
  | nil => cases h2
  | cons n r => cases h2
theorem RowAt.go {sc : Addr} {ns : List Int} (R : RowAt K H r sc ns) (g : Go T H H1) : RowAt K H1 r sc ns := ⟨let ⟨i, s, c, e, q⟩ := R.at_; ⟨i, s, c, g.lst e, q⟩, g.sqL R.scr⟩
/-- the row is written -/
theorem RowAt.set {sc : Addr} {ns : List Int} (R : RowAt K H r sc ns) (t : Tb T H) {i s c : Int} (h : 0 ≤ i ∧ 0 ≤ s ∧ 0 ≤ c) : RowAt K (upd H r (rowO sc i s c)) r sc ns :=
  ⟨⟨i, s, c, upd_same, h⟩, (Gw.row t R.lst).sqL R.scr R.ne⟩
/-- a list of one's own, new behind H, is written -/
theorem Gw.own {D : Addr} {xs ys : List V} (g : Gw T r H H1) (n : H D = none) (e : H1 D = some (.lst xs)) : Gw T r H (upd H1 D (.lst ys)) := by
  have nr : r ≠ D := fun z => by
    obtain ⟨xs, e1⟩ := g.r0
    rw [z, n] at e1
    cases e1
  refine ⟨g.t0, fun P hP => ?_, g.r0, ?_, fun b o eb => ?_⟩
  · obtain ⟨ps, e1, q⟩ := g.t1 P hP
    refine ⟨ps, ?_, q⟩
    rw [upd_ne (ne_of e1 e fun z => by cases z)]
    exact e1
  · obtain ⟨zs, e1⟩ := g.r1
    exact ⟨zs, by rw [upd_ne nr]; exact e1⟩
  · rcases g.keep b o eb with z | z
    · exact .inl (by rw [upd_ne (ne_of_none eb n)]; exact z)
    · exact .inr z
theorem RowAt.own {D sc : Addr} {ns : List Int} {o : HO} (R : RowAt K H r sc ns) (n : H D = none) (R1 : RowAt K H1 r sc ns) (g : Gw T r H (upd H1 D o)) : RowAt K (upd H1 D o) r sc ns := by
  have nr : r ≠ D := fun z => by
    obtain ⟨xs, e1⟩ := g.r0
    rw [z, n] at e1
    cases e1
  refine ⟨?_, g.sqL R.scr R.ne⟩
  obtain ⟨i, s, c, e, q⟩ := R1.at_
  exact ⟨i, s, c, by rw [upd_ne nr]; exact e, q⟩
theorem RowAt.new {p sc : Addr} {ns : List Int} {o : HO} (R : RowAt K H r sc ns) (t : Tb T H) (n : H p = none) : RowAt K (upd H p o) r sc ns := R.go (Go.new t n)
end
/-! ### the settings of a story, in turn -/
/-- from when on the clock may be set again -/
def setsEnd (A : Alm) : Int → List (Int × Int) → Int
  | f, [] => f
  | _, (h, _) :: r => setsEnd A (h + A.rest) r
theorem setsOk_app {A : Alm} {lw h x : Int} : ∀ {ps : List (Int × Int)} {f : Int}, setsOk A lw f ps = true → setsEnd A f ps ≤ h → h ≤ lw → x ∈ A.sets → setsOk A lw f (ps ++ [(h, x)]) = true
  | [], f, _, h1, h2, h3 => by
    have h1 : f ≤ h := h1
    show (decide (f ≤ h ∧ h ≤ lw) && decide (x ∈ A.sets) && true) = true
    simp [h1, h2, h3]
  | (g, y) :: r, f, h0, h1, h2, h3 => by
    rw [setsOk_cons] at h0
    simp only [Bool.and_eq_true] at h0
    show (decide (f ≤ g ∧ g ≤ lw) && decide (y ∈ A.sets) && setsOk A lw (g + A.rest) (r ++ [(h, x)])) = true
    rw [h0.1.1, h0.1.2, setsOk_app h0.2 h1 h2 h3]
    rfl
theorem setsOk_up {A : Alm} {lw lw' : Int} (hl : lw ≤ lw') : ∀ {ps : List (Int × Int)} {f : Int}, setsOk A lw f ps = true → setsOk A lw' f ps = true
  | [], _, _ => rfl
  | (g, y) :: r, f, h0 => by
    rw [setsOk_cons] at h0 ⊢
    simp only [Bool.and_eq_true, decide_eq_true_eq] at h0 ⊢
    exact ⟨⟨⟨h0.1.1.1, by omega⟩, h0.1.2⟩, setsOk_up hl h0.2⟩
theorem setsEnd_app {A : Alm} {h x : Int} : ∀ {ps : List (Int × Int)} {f : Int}, setsEnd A f (ps ++ [(h, x)]) = h + A.rest
  | [], _ => rfl
  | (g, y) :: r, f => setsEnd_app (ps := r)
end WC

/-! two values that hold the same data -/
namespace WC
open PySem PySem.Spec PyProof.Rows L2
def tyD : PyData → String
  | .none => "NoneType"
  | .bool _ => "bool"
  | .int _ => "int"
  | .str _ => "str"
  | .list _ => "list"
  | .tuple _ => "tuple"
  | _ => "object"
/-- how deep -/
inductive Deep : Nat → PyData → Prop
  | none (n : Nat) : Deep n .none
  | bool (n : Nat) (b : Bool) : Deep n (.bool b)
  | int (n : Nat) (i : Int) : Deep n (.int i)
  | str (n : Nat) (x : Str) : Deep n (.str x)
  | list {n : Nat} {ds : List PyData} (hl : ds.length < 1000000) : (∀ d ∈ ds, Deep n d) → Deep (n + 1) (.list ds)
  | tuple {n : Nat} {ds : List PyData} (hl : ds.length < 1000000) : (∀ d ∈ ds, Deep n d) → Deep (n + 1) (.tuple ds)
theorem Dp.ty {K : PySem.W.Frag} {H : Hp} {v : V} {d : PyData} (h : Dp K H v d) : TyX K H v (.type (tyD d)) := by
  cases h with
  | non => exact .base .non
  | bl b => exact .base (.bl b)
  | int i => exact .base (.int i)
  | str x => exact .base (.str x)
  | lst h _ => exact tyL h
  | tup h _ => exact tyT h
mutual
theorem dpGo {T : List Addr} {K : PySem.W.Frag} {H H1 : Hp} (g : Go T H H1) : ∀ {d : PyData} {v : V}, Dp K H v d → Dp K H1 v d
  | .none, _, h => by cases h; exact .non
  | .bool b, _, h => by cases h; exact .bl b
  | .int i, _, h => by cases h; exact .int i
  | .str x, _, h => by cases h; exact .str x
  | .list ds, _, h => by
    cases h with
    | lst h1 h2 => exact .lst (g.sqL h1) (dpAllGo g h2)
  | .tuple ds, _, h => by
    cases h with
    | tup h1 h2 => exact .tup (g.sqT h1) (dpAllGo g h2)
  | .dict _, _, h => by cases h
theorem dpAllGo {T : List Addr} {K : PySem.W.Frag} {H H1 : Hp} (g : Go T H H1) : ∀ {ds : List PyData} {vs : List V}, DpAll K H vs ds → DpAll K H1 vs ds
  | [], _, h => by cases h; exact .nil
  | d :: ds, _, h => by
    cases h with
    | cons h1 h2 => exact .cons (dpGo g h1) (dpAllGo g h2)
end
theorem dpAll_len {K : PySem.W.Frag} {H : Hp} : ∀ {vs : List V} {ds : List PyData}, DpAll K H vs ds → vs.length = ds.length
  | _, _, .nil => rfl
  | _, _, .cons _ t => congrArg Nat.succ (dpAll_len t)
theorem dpAll_get {K : PySem.W.Frag} {H : Hp} : ∀ {vs : List V} {ds : List PyData} {i : Nat} {d : PyData}, DpAll K H vs ds → ds[i]? = some d → ∃ v, vs[i]? = some v ∧ Dp K H v d
  | _, _, 0, d, .cons h _, e => ⟨_, rfl, by cases e; exact h⟩
  | _, _, i + 1, d, .cons _ t, e => dpAll_get (i := i) t e
  | _, _, _, _, .nil, e => by simp at e
theorem dp_ints {K : PySem.W.Frag} {H : Hp} : ∀ (ns : List Int), DpAll K H (vi ns) (ns.map PyData.int)
  | [] => .nil
  | n :: r => .cons (.int n) (dp_ints r)
theorem deep_ints {ns : List Int} (h : ns.length < 1000000) : Deep 1 (.tuple (ns.map PyData.int)) := .tuple (by rw [List.length_map]; exact h) fun d hd => by
  obtain ⟨n, _, e⟩ := List.mem_map.mp hd
  rw [← e]
  exact .int 0 n
theorem deep_intl {ns : List Int} (h : ns.length < 1000000) : Deep 1 (.list (ns.map PyData.int)) := .list (by rw [List.length_map]; exact h) fun d hd => by
  obtain ⟨n, _, e⟩ := List.mem_map.mp hd
  rw [← e]
  exact .int 0 n
/-- isinstance(x, (tuple, list)) -/
theorem isTL {K : PySem.W.Frag} {t : String} {a b : Bool} (h1 : kitB t "tuple" = some a) (h2 : kitB t "list" = some b) : PySem.W.kitAny K (.type t) [.type "tuple", .type "list"] = some (a || b) := by
  refine kitAny_cons (kit_ty h1) (fun e => ?_) fun e => by rw [e]; rfl
  rw [e, Bool.false_or]
  refine kitAny_cons (kit_ty h2) (fun e => ?_) fun e => e
  rw [e]
  exact kitAny_nil
/-- a list or a tuple that is read -/
def Sq (K : PySem.W.Frag) (H : Hp) (a : Addr) (xs : List V) : Prop := SqL K H a xs ∨ SqT K H a xs
theorem Go.sq {T : List Addr} {K : PySem.W.Frag} {H H1 : Hp} {a : Addr} {xs : List V} (g : Go T H H1) (h : Sq K H a xs) : Sq K H1 a xs := h.elim (fun z => .inl (g.sqL z)) fun z => .inr (g.sqT z)
theorem rIx_of {K : PySem.W.Frag} {H : Hp} {a : Addr} {xs : List V} {i : Nat} {v : V} {Q : VK} (h : Sq K H a xs) (e : xs[i]? = some v) (q : Q v H) : rIx K (.ref a) (.int (i : Nat)) H Q :=
  h.elim (fun z => .inl ⟨a, xs, _, v, rfl, rfl, z, atI_nat e, q⟩) fun z => .inr (.inl ⟨a, xs, _, v, rfl, rfl, z, atI_nat e, q⟩)
/-- what two values of the same data are: both flat, or both sequences of one kind -/
inductive Kin (K : PySem.W.Frag) (T : List Addr) (H : Hp) (n : Nat) : V → V → Prop where
  | non : Kin K T H n .non .non
  | str (s : Str) : Kin K T H n (.str s) (.str s)
  | bool (b : Bool) : Kin K T H n (.bl b) (.bl b)
  | int (i : Int) : Kin K T H n (.int i) (.int i)
  | seq {a b : Addr} {xs ys : List V} {ds : List PyData} {m : Nat} (t : String) (l : Bool) (hn : n = m + 1) (ht : ∀ H', Go T H H' → TyX K H' (.ref a) (.type t) ∧ TyX K H' (.ref b) (.type t)) (h1 : kitB t "tuple" = some (!l)) (h2 : kitB t "list" = some l)
      (ha : Sq K H a xs) (hb : Sq K H b ys) (da : DpAll K H xs ds) (db : DpAll K H ys ds) (hl : ds.length < 1000000) (hd : ∀ d ∈ ds, Deep m d) : Kin K T H n (.ref a) (.ref b)
theorem kin_of {K : PySem.W.Frag} {T : List Addr} {H : Hp} {n : Nat} {x y : V} {d : PyData} (hx : Dp K H x d) (hy : Dp K H y d) (hd : Deep n d) : Kin K T H n x y := by
  cases hd with
  | none n => cases hx; cases hy; exact .non
  | bool n b => cases hx; cases hy; exact .bool b
  | int n i => cases hx; cases hy; exact .int i
  | str n s => cases hx; cases hy; exact .str s
  | list hl he =>
    cases hx with
    | lst x1 x2 => cases hy with
      | lst y1 y2 => exact .seq "list" true rfl (fun H' g => ⟨tyL (g.sqL x1), tyL (g.sqL y1)⟩) (by decide +kernel) (by decide +kernel) (.inl x1) (.inl y1) x2 y2 hl he
  | tuple hl he =>
    cases hx with
    | tup x1 x2 => cases hy with
      | tup y1 y2 => exact .seq "tuple" false rfl (fun H' g => ⟨tyT (g.sqT x1), tyT (g.sqT y1)⟩) (by decide +kernel) (by decide +kernel) (.inr x1) (.inr y1) x2 y2 hl he
end WC

namespace K01
open PySem PySem.Spec PyProof.Rows L2
/-! ### the text -/
def topS (i : Nat) : Stmt := PySem.Challenge.pw_wrongclock_k01_whole_almanacs.main.body.getD i (.Pass ⟨0, 0, 0, 0⟩)
abbrev sIsInteger : Stmt := topS 11
abbrev sIsWithin : Stmt := topS 12
abbrev sIsTupleOf : Stmt := topS 13
abbrev sAscends : Stmt := topS 14
abbrev sIsSettings : Stmt := topS 15
abbrev sWrongPart : Stmt := topS 16
abbrev sCheckAlmanac : Stmt := topS 17
abbrev sAreWakings : Stmt := topS 18
abbrev sAreSets : Stmt := topS 19
abbrev sIsStory : Stmt := topS 20
abbrev sCheckStory : Stmt := topS 21
abbrev sCheckHour : Stmt := topS 22
abbrev sShutBefore : Stmt := topS 24
abbrev sOpenedBy : Stmt := topS 25
abbrev sUrgentAt : Stmt := topS 26
abbrev sShownIn : Stmt := topS 27
abbrev sReadings : Stmt := topS 29
abbrev sShut : Stmt := topS 30
abbrev sOpened : Stmt := topS 31
abbrev sUrgent : Stmt := topS 32
abbrev sLawTaken : Stmt := topS 34
abbrev sLawAlmanac : Stmt := topS 35
abbrev sLawPick : Stmt := topS 36
abbrev sLawStory : Stmt := topS 37
abbrev sLawAlike : Stmt := topS 38
abbrev sLawRead : Stmt := topS 39
abbrev sLawShut : Stmt := topS 40
abbrev sLawOpen : Stmt := topS 41
abbrev sLaw : Stmt := topS 42
theorem scIsInteger : FnScope ["value"] ["value"] (defScope sIsInteger) := ⟨rfl, rfl, rfl, by decide +kernel, rfl, by decide +kernel, by decide +kernel⟩
theorem scIsWithin : FnScope ["value", "least", "most"] ["value", "least", "most"] (defScope sIsWithin) := ⟨rfl, rfl, rfl, by decide +kernel, rfl, by decide +kernel, by decide +kernel⟩
theorem scIsTupleOf : FnScope ["value", "many"] ["value", "many"] (defScope sIsTupleOf) := ⟨rfl, rfl, rfl, by decide +kernel, rfl, by decide +kernel, by decide +kernel⟩
theorem scAscends : FnScope ["values", "low", "high"] ["values"] (defScope sAscends) := ⟨rfl, rfl, rfl, by decide +kernel, rfl, by decide +kernel, by decide +kernel⟩
theorem scIsSettings : FnScope ["value", "hours", "setting"] ["value", "hours"] (defScope sIsSettings) := ⟨rfl, rfl, rfl, by decide +kernel, rfl, by decide +kernel, by decide +kernel⟩
theorem scWrongPart : FnScope ["almanac", "hours", "first", "last", "soon", "late", "settings", "rest"] ["almanac"] (defScope sWrongPart) := ⟨rfl, rfl, rfl, by decide +kernel, rfl, by decide +kernel, by decide +kernel⟩
theorem scCheckAlmanac : FnScope ["almanac", "part"] ["almanac"] (defScope sCheckAlmanac) := ⟨rfl, rfl, rfl, by decide +kernel, rfl, by decide +kernel, by decide +kernel⟩
theorem scAreWakings : FnScope ["almanac", "value", "hour", "soon", "late", "before"] ["almanac", "value"] (defScope sAreWakings) := ⟨rfl, rfl, rfl, by decide +kernel, rfl, by decide +kernel, by decide +kernel⟩
theorem scAreSets : FnScope ["almanac", "value", "last_waking", "settings", "rest", "allowed_from", "entry", "hour", "setting"] ["almanac", "value", "last_waking"] (defScope sAreSets) := ⟨rfl, rfl, rfl, by decide +kernel, rfl, by decide +kernel, by decide +kernel⟩
theorem scIsStory : FnScope ["almanac", "value", "wakings", "sets"] ["almanac", "value"] (defScope sIsStory) := ⟨rfl, rfl, rfl, by decide +kernel, rfl, by decide +kernel, by decide +kernel⟩
theorem scCheckStory : FnScope ["almanac", "story"] ["almanac", "story"] (defScope sCheckStory) := ⟨rfl, rfl, rfl, by decide +kernel, rfl, by decide +kernel, by decide +kernel⟩
theorem scCheckHour : FnScope ["hour"] ["hour"] (defScope sCheckHour) := ⟨rfl, rfl, rfl, by decide +kernel, rfl, by decide +kernel, by decide +kernel⟩
theorem scShutBefore : FnScope ["almanac", "hour", "hours", "last"] ["almanac", "hour"] (defScope sShutBefore) := ⟨rfl, rfl, rfl, by decide +kernel, rfl, by decide +kernel, by decide +kernel⟩
theorem scOpenedBy : FnScope ["almanac", "hour", "hours", "first"] ["almanac", "hour"] (defScope sOpenedBy) := ⟨rfl, rfl, rfl, by decide +kernel, rfl, by decide +kernel, by decide +kernel⟩
theorem scUrgentAt : FnScope ["almanac", "hour", "late"] ["almanac", "hour"] (defScope sUrgentAt) := ⟨rfl, rfl, rfl, by decide +kernel, rfl, by decide +kernel, by decide +kernel⟩
theorem scShownIn : FnScope ["almanac", "story", "hours", "wakings", "sets", "shown", "error", "at", "waking"] ["almanac", "story"] (defScope sShownIn) := ⟨rfl, rfl, rfl, by decide +kernel, rfl, by decide +kernel, by decide +kernel⟩
theorem scReadings : FnScope ["almanac", "story"] ["almanac", "story"] (defScope sReadings) := ⟨rfl, rfl, rfl, by decide +kernel, rfl, by decide +kernel, by decide +kernel⟩
theorem scShut : FnScope ["almanac", "hour"] ["almanac", "hour"] (defScope sShut) := ⟨rfl, rfl, rfl, by decide +kernel, rfl, by decide +kernel, by decide +kernel⟩
theorem scOpened : FnScope ["almanac", "hour"] ["almanac", "hour"] (defScope sOpened) := ⟨rfl, rfl, rfl, by decide +kernel, rfl, by decide +kernel, by decide +kernel⟩
theorem scUrgent : FnScope ["almanac", "hour"] ["almanac", "hour"] (defScope sUrgent) := ⟨rfl, rfl, rfl, by decide +kernel, rfl, by decide +kernel, by decide +kernel⟩
theorem scLawTaken : FnScope ["row", "many", "found", "cell"] ["row", "many"] (defScope sLawTaken) := ⟨rfl, rfl, rfl, by decide +kernel, rfl, by decide +kernel, by decide +kernel⟩
theorem scLawAlmanac : FnScope ["row", "hours", "first", "last", "soon", "late", "some", "one"] ["row"] (defScope sLawAlmanac) := ⟨rfl, rfl, rfl, by decide +kernel, rfl, by decide +kernel, by decide +kernel⟩
theorem scLawPick : FnScope ["row", "things"] ["row", "things"] (defScope sLawPick) := ⟨rfl, rfl, rfl, by decide +kernel, rfl, by decide +kernel, by decide +kernel⟩
theorem scLawStory : FnScope ["row", "almanac", "many", "hour", "error", "least", "sets", "wakings", "turn", "gap", "step"] ["row", "almanac", "many"] (defScope sLawStory) := ⟨rfl, rfl, rfl, by decide +kernel, rfl, by decide +kernel, by decide +kernel⟩
theorem scLawAlike : FnScope ["found", "wished", "k"] ["found", "wished"] (defScope sLawAlike) := ⟨rfl, rfl, rfl, by decide +kernel, rfl, by decide +kernel, by decide +kernel⟩
theorem scLawRead : FnScope ["almanac", "story", "found", "waking", "error", "hour", "one"] ["almanac", "story"] (defScope sLawRead) := ⟨rfl, rfl, rfl, by decide +kernel, rfl, by decide +kernel, by decide +kernel⟩
theorem scLawShut : FnScope ["almanac", "hour", "found"] ["almanac", "hour"] (defScope sLawShut) := ⟨rfl, rfl, rfl, by decide +kernel, rfl, by decide +kernel, by decide +kernel⟩
theorem scLawOpen : FnScope ["almanac", "hour", "found"] ["almanac", "hour"] (defScope sLawOpen) := ⟨rfl, rfl, rfl, by decide +kernel, rfl, by decide +kernel, by decide +kernel⟩
theorem scLaw : FnScope ["script", "row", "almanac", "turn", "story", "hour", "due", "far", "low"] ["script"] (defScope sLaw) := ⟨rfl, rfl, rfl, by decide +kernel, rfl, by decide +kernel, by decide +kernel⟩
/-! ### the head: facts by names, the run -/
def dIsInteger : He.DefD := ⟨("is_integer", none), "is_integer", "is_integer", defArgs sIsInteger, defBody sIsInteger, defScope sIsInteger, [], []⟩
def dIsWithin : He.DefD := ⟨("is_within", none), "is_within", "is_within", defArgs sIsWithin, defBody sIsWithin, defScope sIsWithin, [], []⟩
def dIsTupleOf : He.DefD := ⟨("is_tuple_of", none), "is_tuple_of", "is_tuple_of", defArgs sIsTupleOf, defBody sIsTupleOf, defScope sIsTupleOf, [], []⟩
def dAscends : He.DefD := ⟨("ascends", none), "ascends", "ascends", defArgs sAscends, defBody sAscends, defScope sAscends, [], []⟩
def dIsSettings : He.DefD := ⟨("is_settings", none), "is_settings", "is_settings", defArgs sIsSettings, defBody sIsSettings, defScope sIsSettings, [], []⟩
def dWrongPart : He.DefD := ⟨("wrong_part", none), "wrong_part", "wrong_part", defArgs sWrongPart, defBody sWrongPart, defScope sWrongPart, [], []⟩
def dCheckAlmanac : He.DefD := ⟨("check_almanac", none), "check_almanac", "check_almanac", defArgs sCheckAlmanac, defBody sCheckAlmanac, defScope sCheckAlmanac, [], []⟩
def dAreWakings : He.DefD := ⟨("are_wakings", none), "are_wakings", "are_wakings", defArgs sAreWakings, defBody sAreWakings, defScope sAreWakings, [], []⟩
def dAreSets : He.DefD := ⟨("are_sets", none), "are_sets", "are_sets", defArgs sAreSets, defBody sAreSets, defScope sAreSets, [], []⟩
def dIsStory : He.DefD := ⟨("is_story", none), "is_story", "is_story", defArgs sIsStory, defBody sIsStory, defScope sIsStory, [], []⟩
def dCheckStory : He.DefD := ⟨("check_story", none), "check_story", "check_story", defArgs sCheckStory, defBody sCheckStory, defScope sCheckStory, [], []⟩
def dCheckHour : He.DefD := ⟨("check_hour", none), "check_hour", "check_hour", defArgs sCheckHour, defBody sCheckHour, defScope sCheckHour, [], []⟩
def dShutBefore : He.DefD := ⟨("shut_before", none), "shut_before", "shut_before", defArgs sShutBefore, defBody sShutBefore, defScope sShutBefore, [], []⟩
def dOpenedBy : He.DefD := ⟨("opened_by", none), "opened_by", "opened_by", defArgs sOpenedBy, defBody sOpenedBy, defScope sOpenedBy, [], []⟩
def dUrgentAt : He.DefD := ⟨("urgent_at", none), "urgent_at", "urgent_at", defArgs sUrgentAt, defBody sUrgentAt, defScope sUrgentAt, [], []⟩
def dShownIn : He.DefD := ⟨("shown_in", none), "shown_in", "shown_in", defArgs sShownIn, defBody sShownIn, defScope sShownIn, [], []⟩
def dReadings : He.DefD := ⟨("readings", none), "readings", "readings", defArgs sReadings, defBody sReadings, defScope sReadings, [], []⟩
def dShut : He.DefD := ⟨("shut", none), "shut", "shut", defArgs sShut, defBody sShut, defScope sShut, [], []⟩
def dOpened : He.DefD := ⟨("opened", none), "opened", "opened", defArgs sOpened, defBody sOpened, defScope sOpened, [], []⟩
def dUrgent : He.DefD := ⟨("urgent", none), "urgent", "urgent", defArgs sUrgent, defBody sUrgent, defScope sUrgent, [], []⟩
def dLawTaken : He.DefD := ⟨("_law_taken", none), "_law_taken", "_law_taken", defArgs sLawTaken, defBody sLawTaken, defScope sLawTaken, [], []⟩
def dLawAlmanac : He.DefD := ⟨("_law_almanac", none), "_law_almanac", "_law_almanac", defArgs sLawAlmanac, defBody sLawAlmanac, defScope sLawAlmanac, [], []⟩
def dLawPick : He.DefD := ⟨("_law_pick", none), "_law_pick", "_law_pick", defArgs sLawPick, defBody sLawPick, defScope sLawPick, [], []⟩
def dLawStory : He.DefD := ⟨("_law_story", none), "_law_story", "_law_story", defArgs sLawStory, defBody sLawStory, defScope sLawStory, [], []⟩
def dLawAlike : He.DefD := ⟨("_law_alike", none), "_law_alike", "_law_alike", defArgs sLawAlike, defBody sLawAlike, defScope sLawAlike, [], []⟩
def dLawRead : He.DefD := ⟨("_law_read", none), "_law_read", "_law_read", defArgs sLawRead, defBody sLawRead, defScope sLawRead, [], []⟩
def dLawShut : He.DefD := ⟨("_law_shut", none), "_law_shut", "_law_shut", defArgs sLawShut, defBody sLawShut, defScope sLawShut, [], []⟩
def dLawOpen : He.DefD := ⟨("_law_open", none), "_law_open", "_law_open", defArgs sLawOpen, defBody sLawOpen, defScope sLawOpen, [], []⟩
def dLaw : He.DefD := ⟨("law", none), "law", "law", defArgs sLaw, defBody sLaw, defScope sLaw, [], []⟩
def fnS : List He.DefD := [dIsInteger, dIsWithin, dIsTupleOf, dAscends, dIsSettings, dWrongPart, dCheckAlmanac, dAreWakings, dAreSets, dIsStory, dCheckStory, dCheckHour, dShutBefore, dOpenedBy, dUrgentAt, dShownIn, dReadings, dShut, dOpened, dUrgent, dLawTaken, dLawAlmanac, dLawPick, dLawStory, dLawAlike, dLawRead, dLawShut, dLawOpen, dLaw]
def faS : List He.Fa := [.glo "is_integer", .glo "is_within", .glo "is_tuple_of", .glo "ascends", .glo "is_settings", .glo "wrong_part", .glo "check_almanac", .glo "are_wakings", .glo "are_sets", .glo "is_story", .glo "check_story", .glo "check_hour", .glo "shut_before", .glo "opened_by", .glo "urgent_at", .glo "shown_in", .glo "readings", .glo "shut", .glo "opened", .glo "urgent", .glo "_law_taken", .glo "_law_almanac", .glo "_law_pick", .glo "_law_story", .glo "_law_alike", .glo "_law_read", .glo "_law_shut", .glo "_law_open", .glo "law", .free "isinstance", .free "int", .free "bool", .free "tuple", .free "len", .free "all", .free "zip", .free "max", .free "range", .free "list", .free "str", .free "sum", .int "MOST_SETTINGS" 4, .int "MOST_LATE" 24, .int "MOST_REST" 12, .int "MOST_WAKINGS" 60, .int "LAST_HOUR" 1000000000]
def tfS : List He.Defn := [("ascends", none), ("is_settings", none), ("are_wakings", none)]
abbrev RO : PySem.W.OpenRow := PySem.W.OpenLaw.row PySem.Challenge.rw_wrongclock_k01_whole_almanacs
abbrev hkS : PySem.W.Hook := He.hookX 4 faS fnS [] tfS fun _ => true
def obS (s : PySem.W.SharedT) : He.AlX := He.obsX 4 faS fnS [] tfS (fun _ => true) (HandSHeadRun.getT s)
theorem obS_eq (s : PySem.W.SharedT) : obS s = hkS.obs s.abs := He.obsX_eq (HandSHeadRun.getT_eq s)
def looseS : List PySem.Str := (["ClockworkError", "BadAlmanac", "BadHour", "BadStory", "MOST_SETTINGS", "MOST_LATE", "MOST_REST", "MOST_WAKINGS", "LAST_HOUR", "is_integer", "is_within", "is_tuple_of"] : List PySem.Str) ++ (["ascends", "is_settings", "wrong_part", "check_almanac", "are_wakings", "are_sets", "is_story", "check_story", "check_hour", "shut_before", "opened_by", "urgent_at"] : List PySem.Str) ++ (["shown_in", "readings", "shut", "opened", "urgent", "_law_taken", "_law_almanac", "_law_pick", "_law_story", "_law_alike", "_law_read", "_law_shut"] : List PySem.Str) ++ (["_law_open"] : List PySem.Str)
theorem runS (w : World) : HandSHeadRun.RunEq RO (PySem.W.view RO.prog [42]) hkS obS 4000 looseS w := by
  intro os
  kernel_rfl
/-- what the head tells, over a base -/
structure Zf (w : World) (K : PySem.W.Frag) (mg : Str → Option Value) (base h : Heap) : Prop where
  kin : K.In h
  g : h.Ns mainGlobals mg
  c : He.SaysX faS fnS [] tfS (fun _ => true) w h K
  tb : ∀ p ∈ tfS, LamX.TabB base mg (He.cT K p).1 (He.cT K p).2
abbrev tabs (K : PySem.W.Frag) : List Addr := tfS.map fun p => (He.cT K p).2
section
variable {w : World} {K : PySem.W.Frag} {mg : Str → Option Value} {base h : Heap}
theorem fdIsInteger (z : Zf w K mg base h) : ∃ fd, FunD K "is_integer" "is_integer" (defArgs sIsInteger) (defBody sIsInteger) (defScope sIsInteger) [] [] (He.fAd K ("is_integer", none)) fd := z.c.t.d.def_ 0 (d := dIsInteger) rfl
theorem gIsInteger (z : Zf w K mg base h) : mg "is_integer" = some (.ref (He.fAd K ("is_integer", none))) := He.glo_ok z.kin z.g (z.c.t.d.fact 0 (f := .glo "is_integer") rfl)
theorem fdIsWithin (z : Zf w K mg base h) : ∃ fd, FunD K "is_within" "is_within" (defArgs sIsWithin) (defBody sIsWithin) (defScope sIsWithin) [] [] (He.fAd K ("is_within", none)) fd := z.c.t.d.def_ 1 (d := dIsWithin) rfl
theorem gIsWithin (z : Zf w K mg base h) : mg "is_within" = some (.ref (He.fAd K ("is_within", none))) := He.glo_ok z.kin z.g (z.c.t.d.fact 1 (f := .glo "is_within") rfl)
theorem fdIsTupleOf (z : Zf w K mg base h) : ∃ fd, FunD K "is_tuple_of" "is_tuple_of" (defArgs sIsTupleOf) (defBody sIsTupleOf) (defScope sIsTupleOf) [] [] (He.fAd K ("is_tuple_of", none)) fd := z.c.t.d.def_ 2 (d := dIsTupleOf) rfl
theorem gIsTupleOf (z : Zf w K mg base h) : mg "is_tuple_of" = some (.ref (He.fAd K ("is_tuple_of", none))) := He.glo_ok z.kin z.g (z.c.t.d.fact 2 (f := .glo "is_tuple_of") rfl)
theorem fdAscends (z : Zf w K mg base h) : ∃ fd, FunD K "ascends" "ascends" (defArgs sAscends) (defBody sAscends) (defScope sAscends) [] [] (He.fAd K ("ascends", none)) fd := z.c.t.d.def_ 3 (d := dAscends) rfl
theorem gAscends (z : Zf w K mg base h) : mg "ascends" = some (.ref (He.fAd K ("ascends", none))) := He.glo_ok z.kin z.g (z.c.t.d.fact 3 (f := .glo "ascends") rfl)
theorem fdIsSettings (z : Zf w K mg base h) : ∃ fd, FunD K "is_settings" "is_settings" (defArgs sIsSettings) (defBody sIsSettings) (defScope sIsSettings) [] [] (He.fAd K ("is_settings", none)) fd := z.c.t.d.def_ 4 (d := dIsSettings) rfl
theorem gIsSettings (z : Zf w K mg base h) : mg "is_settings" = some (.ref (He.fAd K ("is_settings", none))) := He.glo_ok z.kin z.g (z.c.t.d.fact 4 (f := .glo "is_settings") rfl)
theorem fdWrongPart (z : Zf w K mg base h) : ∃ fd, FunD K "wrong_part" "wrong_part" (defArgs sWrongPart) (defBody sWrongPart) (defScope sWrongPart) [] [] (He.fAd K ("wrong_part", none)) fd := z.c.t.d.def_ 5 (d := dWrongPart) rfl
theorem gWrongPart (z : Zf w K mg base h) : mg "wrong_part" = some (.ref (He.fAd K ("wrong_part", none))) := He.glo_ok z.kin z.g (z.c.t.d.fact 5 (f := .glo "wrong_part") rfl)
theorem fdCheckAlmanac (z : Zf w K mg base h) : ∃ fd, FunD K "check_almanac" "check_almanac" (defArgs sCheckAlmanac) (defBody sCheckAlmanac) (defScope sCheckAlmanac) [] [] (He.fAd K ("check_almanac", none)) fd := z.c.t.d.def_ 6 (d := dCheckAlmanac) rfl
theorem gCheckAlmanac (z : Zf w K mg base h) : mg "check_almanac" = some (.ref (He.fAd K ("check_almanac", none))) := He.glo_ok z.kin z.g (z.c.t.d.fact 6 (f := .glo "check_almanac") rfl)
theorem fdAreWakings (z : Zf w K mg base h) : ∃ fd, FunD K "are_wakings" "are_wakings" (defArgs sAreWakings) (defBody sAreWakings) (defScope sAreWakings) [] [] (He.fAd K ("are_wakings", none)) fd := z.c.t.d.def_ 7 (d := dAreWakings) rfl
theorem gAreWakings (z : Zf w K mg base h) : mg "are_wakings" = some (.ref (He.fAd K ("are_wakings", none))) := He.glo_ok z.kin z.g (z.c.t.d.fact 7 (f := .glo "are_wakings") rfl)
theorem fdAreSets (z : Zf w K mg base h) : ∃ fd, FunD K "are_sets" "are_sets" (defArgs sAreSets) (defBody sAreSets) (defScope sAreSets) [] [] (He.fAd K ("are_sets", none)) fd := z.c.t.d.def_ 8 (d := dAreSets) rfl
theorem gAreSets (z : Zf w K mg base h) : mg "are_sets" = some (.ref (He.fAd K ("are_sets", none))) := He.glo_ok z.kin z.g (z.c.t.d.fact 8 (f := .glo "are_sets") rfl)
theorem fdIsStory (z : Zf w K mg base h) : ∃ fd, FunD K "is_story" "is_story" (defArgs sIsStory) (defBody sIsStory) (defScope sIsStory) [] [] (He.fAd K ("is_story", none)) fd := z.c.t.d.def_ 9 (d := dIsStory) rfl
theorem gIsStory (z : Zf w K mg base h) : mg "is_story" = some (.ref (He.fAd K ("is_story", none))) := He.glo_ok z.kin z.g (z.c.t.d.fact 9 (f := .glo "is_story") rfl)
theorem fdCheckStory (z : Zf w K mg base h) : ∃ fd, FunD K "check_story" "check_story" (defArgs sCheckStory) (defBody sCheckStory) (defScope sCheckStory) [] [] (He.fAd K ("check_story", none)) fd := z.c.t.d.def_ 10 (d := dCheckStory) rfl
theorem gCheckStory (z : Zf w K mg base h) : mg "check_story" = some (.ref (He.fAd K ("check_story", none))) := He.glo_ok z.kin z.g (z.c.t.d.fact 10 (f := .glo "check_story") rfl)
theorem fdCheckHour (z : Zf w K mg base h) : ∃ fd, FunD K "check_hour" "check_hour" (defArgs sCheckHour) (defBody sCheckHour) (defScope sCheckHour) [] [] (He.fAd K ("check_hour", none)) fd := z.c.t.d.def_ 11 (d := dCheckHour) rfl
theorem gCheckHour (z : Zf w K mg base h) : mg "check_hour" = some (.ref (He.fAd K ("check_hour", none))) := He.glo_ok z.kin z.g (z.c.t.d.fact 11 (f := .glo "check_hour") rfl)
theorem fdShutBefore (z : Zf w K mg base h) : ∃ fd, FunD K "shut_before" "shut_before" (defArgs sShutBefore) (defBody sShutBefore) (defScope sShutBefore) [] [] (He.fAd K ("shut_before", none)) fd := z.c.t.d.def_ 12 (d := dShutBefore) rfl
theorem gShutBefore (z : Zf w K mg base h) : mg "shut_before" = some (.ref (He.fAd K ("shut_before", none))) := He.glo_ok z.kin z.g (z.c.t.d.fact 12 (f := .glo "shut_before") rfl)
theorem fdOpenedBy (z : Zf w K mg base h) : ∃ fd, FunD K "opened_by" "opened_by" (defArgs sOpenedBy) (defBody sOpenedBy) (defScope sOpenedBy) [] [] (He.fAd K ("opened_by", none)) fd := z.c.t.d.def_ 13 (d := dOpenedBy) rfl
theorem gOpenedBy (z : Zf w K mg base h) : mg "opened_by" = some (.ref (He.fAd K ("opened_by", none))) := He.glo_ok z.kin z.g (z.c.t.d.fact 13 (f := .glo "opened_by") rfl)
theorem fdUrgentAt (z : Zf w K mg base h) : ∃ fd, FunD K "urgent_at" "urgent_at" (defArgs sUrgentAt) (defBody sUrgentAt) (defScope sUrgentAt) [] [] (He.fAd K ("urgent_at", none)) fd := z.c.t.d.def_ 14 (d := dUrgentAt) rfl
theorem gUrgentAt (z : Zf w K mg base h) : mg "urgent_at" = some (.ref (He.fAd K ("urgent_at", none))) := He.glo_ok z.kin z.g (z.c.t.d.fact 14 (f := .glo "urgent_at") rfl)
theorem fdShownIn (z : Zf w K mg base h) : ∃ fd, FunD K "shown_in" "shown_in" (defArgs sShownIn) (defBody sShownIn) (defScope sShownIn) [] [] (He.fAd K ("shown_in", none)) fd := z.c.t.d.def_ 15 (d := dShownIn) rfl
theorem gShownIn (z : Zf w K mg base h) : mg "shown_in" = some (.ref (He.fAd K ("shown_in", none))) := He.glo_ok z.kin z.g (z.c.t.d.fact 15 (f := .glo "shown_in") rfl)
theorem fdReadings (z : Zf w K mg base h) : ∃ fd, FunD K "readings" "readings" (defArgs sReadings) (defBody sReadings) (defScope sReadings) [] [] (He.fAd K ("readings", none)) fd := z.c.t.d.def_ 16 (d := dReadings) rfl
theorem gReadings (z : Zf w K mg base h) : mg "readings" = some (.ref (He.fAd K ("readings", none))) := He.glo_ok z.kin z.g (z.c.t.d.fact 16 (f := .glo "readings") rfl)
theorem fdShut (z : Zf w K mg base h) : ∃ fd, FunD K "shut" "shut" (defArgs sShut) (defBody sShut) (defScope sShut) [] [] (He.fAd K ("shut", none)) fd := z.c.t.d.def_ 17 (d := dShut) rfl
theorem gShut (z : Zf w K mg base h) : mg "shut" = some (.ref (He.fAd K ("shut", none))) := He.glo_ok z.kin z.g (z.c.t.d.fact 17 (f := .glo "shut") rfl)
theorem fdOpened (z : Zf w K mg base h) : ∃ fd, FunD K "opened" "opened" (defArgs sOpened) (defBody sOpened) (defScope sOpened) [] [] (He.fAd K ("opened", none)) fd := z.c.t.d.def_ 18 (d := dOpened) rfl
theorem gOpened (z : Zf w K mg base h) : mg "opened" = some (.ref (He.fAd K ("opened", none))) := He.glo_ok z.kin z.g (z.c.t.d.fact 18 (f := .glo "opened") rfl)
theorem fdUrgent (z : Zf w K mg base h) : ∃ fd, FunD K "urgent" "urgent" (defArgs sUrgent) (defBody sUrgent) (defScope sUrgent) [] [] (He.fAd K ("urgent", none)) fd := z.c.t.d.def_ 19 (d := dUrgent) rfl
theorem gUrgent (z : Zf w K mg base h) : mg "urgent" = some (.ref (He.fAd K ("urgent", none))) := He.glo_ok z.kin z.g (z.c.t.d.fact 19 (f := .glo "urgent") rfl)
theorem fdLawTaken (z : Zf w K mg base h) : ∃ fd, FunD K "_law_taken" "_law_taken" (defArgs sLawTaken) (defBody sLawTaken) (defScope sLawTaken) [] [] (He.fAd K ("_law_taken", none)) fd := z.c.t.d.def_ 20 (d := dLawTaken) rfl
theorem gLawTaken (z : Zf w K mg base h) : mg "_law_taken" = some (.ref (He.fAd K ("_law_taken", none))) := He.glo_ok z.kin z.g (z.c.t.d.fact 20 (f := .glo "_law_taken") rfl)
theorem fdLawAlmanac (z : Zf w K mg base h) : ∃ fd, FunD K "_law_almanac" "_law_almanac" (defArgs sLawAlmanac) (defBody sLawAlmanac) (defScope sLawAlmanac) [] [] (He.fAd K ("_law_almanac", none)) fd := z.c.t.d.def_ 21 (d := dLawAlmanac) rfl
theorem gLawAlmanac (z : Zf w K mg base h) : mg "_law_almanac" = some (.ref (He.fAd K ("_law_almanac", none))) := He.glo_ok z.kin z.g (z.c.t.d.fact 21 (f := .glo "_law_almanac") rfl)
theorem fdLawPick (z : Zf w K mg base h) : ∃ fd, FunD K "_law_pick" "_law_pick" (defArgs sLawPick) (defBody sLawPick) (defScope sLawPick) [] [] (He.fAd K ("_law_pick", none)) fd := z.c.t.d.def_ 22 (d := dLawPick) rfl
theorem gLawPick (z : Zf w K mg base h) : mg "_law_pick" = some (.ref (He.fAd K ("_law_pick", none))) := He.glo_ok z.kin z.g (z.c.t.d.fact 22 (f := .glo "_law_pick") rfl)
theorem fdLawStory (z : Zf w K mg base h) : ∃ fd, FunD K "_law_story" "_law_story" (defArgs sLawStory) (defBody sLawStory) (defScope sLawStory) [] [] (He.fAd K ("_law_story", none)) fd := z.c.t.d.def_ 23 (d := dLawStory) rfl
theorem gLawStory (z : Zf w K mg base h) : mg "_law_story" = some (.ref (He.fAd K ("_law_story", none))) := He.glo_ok z.kin z.g (z.c.t.d.fact 23 (f := .glo "_law_story") rfl)
theorem fdLawAlike (z : Zf w K mg base h) : ∃ fd, FunD K "_law_alike" "_law_alike" (defArgs sLawAlike) (defBody sLawAlike) (defScope sLawAlike) [] [] (He.fAd K ("_law_alike", none)) fd := z.c.t.d.def_ 24 (d := dLawAlike) rfl
theorem gLawAlike (z : Zf w K mg base h) : mg "_law_alike" = some (.ref (He.fAd K ("_law_alike", none))) := He.glo_ok z.kin z.g (z.c.t.d.fact 24 (f := .glo "_law_alike") rfl)
theorem fdLawRead (z : Zf w K mg base h) : ∃ fd, FunD K "_law_read" "_law_read" (defArgs sLawRead) (defBody sLawRead) (defScope sLawRead) [] [] (He.fAd K ("_law_read", none)) fd := z.c.t.d.def_ 25 (d := dLawRead) rfl
theorem gLawRead (z : Zf w K mg base h) : mg "_law_read" = some (.ref (He.fAd K ("_law_read", none))) := He.glo_ok z.kin z.g (z.c.t.d.fact 25 (f := .glo "_law_read") rfl)
theorem fdLawShut (z : Zf w K mg base h) : ∃ fd, FunD K "_law_shut" "_law_shut" (defArgs sLawShut) (defBody sLawShut) (defScope sLawShut) [] [] (He.fAd K ("_law_shut", none)) fd := z.c.t.d.def_ 26 (d := dLawShut) rfl
theorem gLawShut (z : Zf w K mg base h) : mg "_law_shut" = some (.ref (He.fAd K ("_law_shut", none))) := He.glo_ok z.kin z.g (z.c.t.d.fact 26 (f := .glo "_law_shut") rfl)
theorem fdLawOpen (z : Zf w K mg base h) : ∃ fd, FunD K "_law_open" "_law_open" (defArgs sLawOpen) (defBody sLawOpen) (defScope sLawOpen) [] [] (He.fAd K ("_law_open", none)) fd := z.c.t.d.def_ 27 (d := dLawOpen) rfl
theorem gLawOpen (z : Zf w K mg base h) : mg "_law_open" = some (.ref (He.fAd K ("_law_open", none))) := He.glo_ok z.kin z.g (z.c.t.d.fact 27 (f := .glo "_law_open") rfl)
theorem fdLaw (z : Zf w K mg base h) : ∃ fd, FunD K "law" "law" (defArgs sLaw) (defBody sLaw) (defScope sLaw) [] [] (He.fAd K ("law", none)) fd := z.c.t.d.def_ 28 (d := dLaw) rfl
theorem gLaw (z : Zf w K mg base h) : mg "law" = some (.ref (He.fAd K ("law", none))) := He.glo_ok z.kin z.g (z.c.t.d.fact 28 (f := .glo "law") rfl)
theorem m_isinstance (z : Zf w K mg base h) : mg "isinstance" = none := He.free_ok z.kin z.g (z.c.t.d.fact 29 (f := .free "isinstance") rfl)
theorem m_int (z : Zf w K mg base h) : mg "int" = none := He.free_ok z.kin z.g (z.c.t.d.fact 30 (f := .free "int") rfl)
theorem m_bool (z : Zf w K mg base h) : mg "bool" = none := He.free_ok z.kin z.g (z.c.t.d.fact 31 (f := .free "bool") rfl)
theorem m_tuple (z : Zf w K mg base h) : mg "tuple" = none := He.free_ok z.kin z.g (z.c.t.d.fact 32 (f := .free "tuple") rfl)
theorem m_len (z : Zf w K mg base h) : mg "len" = none := He.free_ok z.kin z.g (z.c.t.d.fact 33 (f := .free "len") rfl)
theorem m_all (z : Zf w K mg base h) : mg "all" = none := He.free_ok z.kin z.g (z.c.t.d.fact 34 (f := .free "all") rfl)
theorem m_zip (z : Zf w K mg base h) : mg "zip" = none := He.free_ok z.kin z.g (z.c.t.d.fact 35 (f := .free "zip") rfl)
theorem m_max (z : Zf w K mg base h) : mg "max" = none := He.free_ok z.kin z.g (z.c.t.d.fact 36 (f := .free "max") rfl)
theorem m_range (z : Zf w K mg base h) : mg "range" = none := He.free_ok z.kin z.g (z.c.t.d.fact 37 (f := .free "range") rfl)
theorem m_list (z : Zf w K mg base h) : mg "list" = none := He.free_ok z.kin z.g (z.c.t.d.fact 38 (f := .free "list") rfl)
theorem m_str (z : Zf w K mg base h) : mg "str" = none := He.free_ok z.kin z.g (z.c.t.d.fact 39 (f := .free "str") rfl)
theorem m_sum (z : Zf w K mg base h) : mg "sum" = none := He.free_ok z.kin z.g (z.c.t.d.fact 40 (f := .free "sum") rfl)
theorem k_MOST_SETTINGS (z : Zf w K mg base h) : ∃ t, mg "MOST_SETTINGS" = some (.int 4 t) := He.int_ok z.kin z.g (z.c.t.d.fact 41 (f := .int "MOST_SETTINGS" 4) rfl)
theorem k_MOST_LATE (z : Zf w K mg base h) : ∃ t, mg "MOST_LATE" = some (.int 24 t) := He.int_ok z.kin z.g (z.c.t.d.fact 42 (f := .int "MOST_LATE" 24) rfl)
theorem k_MOST_REST (z : Zf w K mg base h) : ∃ t, mg "MOST_REST" = some (.int 12 t) := He.int_ok z.kin z.g (z.c.t.d.fact 43 (f := .int "MOST_REST" 12) rfl)
theorem k_MOST_WAKINGS (z : Zf w K mg base h) : ∃ t, mg "MOST_WAKINGS" = some (.int 60 t) := He.int_ok z.kin z.g (z.c.t.d.fact 44 (f := .int "MOST_WAKINGS" 60) rfl)
theorem k_LAST_HOUR (z : Zf w K mg base h) : ∃ t, mg "LAST_HOUR" = some (.int 1000000000 t) := He.int_ok z.kin z.g (z.c.t.d.fact 45 (f := .int "LAST_HOUR" 1000000000) rfl)
theorem tbAscends (z : Zf w K mg base h) : GxR.TabB base mg (He.codeOf K ("ascends", none)) (He.tabOf K (He.codeOf K ("ascends", none))) := by
  have t := z.tb ("ascends", none) (List.mem_of_getElem? (i := 0) rfl)
  exact ⟨t.code, t.bm, t.gP⟩
theorem inAscends : He.tabOf K (He.codeOf K ("ascends", none)) ∈ tabs K := List.mem_map.mpr ⟨("ascends", none), List.mem_of_getElem? (i := 0) rfl, rfl⟩
theorem tbIsSettings (z : Zf w K mg base h) : GxR.TabB base mg (He.codeOf K ("is_settings", none)) (He.tabOf K (He.codeOf K ("is_settings", none))) := by
  have t := z.tb ("is_settings", none) (List.mem_of_getElem? (i := 1) rfl)
  exact ⟨t.code, t.bm, t.gP⟩
theorem inIsSettings : He.tabOf K (He.codeOf K ("is_settings", none)) ∈ tabs K := List.mem_map.mpr ⟨("is_settings", none), List.mem_of_getElem? (i := 1) rfl, rfl⟩
theorem tbAreWakings (z : Zf w K mg base h) : GxR.TabB base mg (He.codeOf K ("are_wakings", none)) (He.tabOf K (He.codeOf K ("are_wakings", none))) := by
  have t := z.tb ("are_wakings", none) (List.mem_of_getElem? (i := 2) rfl)
  exact ⟨t.code, t.bm, t.gP⟩
theorem inAreWakings : He.tabOf K (He.codeOf K ("are_wakings", none)) ∈ tabs K := List.mem_map.mpr ⟨("are_wakings", none), List.mem_of_getElem? (i := 2) rfl, rfl⟩
end
end K01

namespace K01
open PySem PySem.Spec PyProof.Rows L2 WC
section
variable {P : Program} {w : World} {K : PySem.W.Frag} {mg : Str → Option Value} {base h : Heap}
/-! ### what is allowed -/
def spIsInteger : Sp := fun vs H Q _ => ∃ n : Int, vs = [.int n] ∧ Q (.bl true) H
theorem okIsInteger (z : Zf w K mg base h) : Cal P w K mg base 1 "is_integer" ["value"] spIsInteger := by
  refine cal_of (fdIsInteger z) (gIsInteger z) scIsInteger (fun _ _ _ _ _ _ us hl => match us, hl with | [_], _ => rfl) (fun vs H Q E h => ?_) (fun A outer s H vs Q E hr h => ?_)
  · obtain ⟨n, rfl, _⟩ := h
    rfl
  · obtain ⟨n, rfl, q⟩ := h
    refine ⟨_, (pss_one (ps_ret (pe_and (pe_callB call_isi (by rfl) (m_isinstance z) (by decide +kernel) (pa_cons (pv 0) (pa_cons (pe_bltn (v := .ty "int") (by rfl) (m_int z) (by decide +kernel) rfl) pa_nil))) (pe_one (pe_not (pe_callB call_isi (by rfl) (m_isinstance z) (by decide +kernel) (pa_cons (pv 0) (pa_cons (pe_bltn (v := .ty "bool") (by rfl) (m_bool z) (by decide +kernel) rfl) pa_nil)))))))), ?_⟩
    refine ⟨_, rfl, _, _, _, _, true, rfl, .ty "int", .base (.int n), kit_ty (by decide +kernel), true, rfl, ?_⟩
    refine iteT ⟨_, rfl, _, _, _, _, false, rfl, .ty "bool", .base (.int n), kit_ty (by decide +kernel), false, rfl, ?_⟩
    exact q
def spIsWithin : Sp := fun vs H Q _ => ∃ n a b : Int, vs = [.int n, .int a, .int b] ∧ Q (.bl (decide (a ≤ n ∧ n ≤ b))) H
theorem okIsWithin (z : Zf w K mg base h) : Cal P w K mg base 2 "is_within" ["value", "least", "most"] spIsWithin := by
  have CIsInteger := okIsInteger (P := P) z
  refine cal_of (fdIsWithin z) (gIsWithin z) scIsWithin (fun _ _ _ _ _ _ us hl => match us, hl with | [_, _, _], _ => rfl) (fun vs H Q E h => ?_) (fun A outer s H vs Q E hr h => ?_)
  · obtain ⟨n, a, b, rfl, _⟩ := h
    rfl
  · obtain ⟨n, a, b, rfl, q⟩ := h
    refine ⟨_, (pss_one (ps_ret (pe_and (pe_cal CIsInteger (hr.mono (by decide)) (by rfl) (pa_cons (pv 0) pa_nil)) (pe_one (pe_chain op_le op_le (pv 1) (pv 0) (pv 2)))))), ?_⟩
    refine ⟨_, rfl, n, rfl, true, rfl, iteT ?_⟩
    refine ⟨_, rfl, _, rfl, _, _, rfl, rfl, _, rfl, ?_⟩
    by_cases h1 : a ≤ n
    · rw [if_pos (decide_eq_true h1)]
      refine ⟨_, rfl, _, _, rfl, rfl, ?_⟩
      rw [show decide (a ≤ n ∧ n ≤ b) = decide (n ≤ b) by simp [h1]] at q
      exact q
    · rw [if_neg (by simp [h1])]
      rw [show decide (a ≤ n ∧ n ≤ b) = false by simp [h1]] at q
      exact q
def spIsTupleOf (K : PySem.W.Frag) : Sp := fun vs H Q _ => ∃ (a : Addr) (xs : List V) (m : Int), vs = [.ref a, .int m] ∧ SqT K H a xs ∧ Q (.bl (decide ((xs.length : Int) = m))) H
theorem okIsTupleOf (z : Zf w K mg base h) : Cal P w K mg base 1 "is_tuple_of" ["value", "many"] (spIsTupleOf K) := by
  refine cal_of (fdIsTupleOf z) (gIsTupleOf z) scIsTupleOf (fun _ _ _ _ _ _ us hl => match us, hl with | [_, _], _ => rfl) (fun vs H Q E h => ?_) (fun A outer s H vs Q E hr h => ?_)
  · obtain ⟨a, xs, m, rfl, _⟩ := h
    rfl
  · obtain ⟨a, xs, m, rfl, hS, q⟩ := h
    refine ⟨_, (pss_one (ps_ret (pe_and (pe_callB call_isi (by rfl) (m_isinstance z) (by decide +kernel) (pa_cons (pv 0) (pa_cons (pe_bltn (v := .ty "tuple") (by rfl) (m_tuple z) (by decide +kernel) rfl) pa_nil))) (pe_one (pe_cmpR op_eq (pe_callB call_len_seq (by rfl) (m_len z) (by decide +kernel) (pa_cons (pv 0) pa_nil)) (pv 1) (nomark _)))))), ?_⟩
    refine ⟨_, rfl, _, _, _, _, true, rfl, .ty "tuple", tyT hS, kit_ty (by decide +kernel), true, rfl, iteT ?_⟩
    refine ⟨_, rfl, a, xs, rfl, .inr hS, _, rfl, rfl, ?_⟩
    rw [show decide ((xs.length : Int) = m) = decide (V.int (xs.length : Int) = V.int m) by simp] at q
    exact q
end
end K01

namespace K01
open PySem PySem.Spec PyProof.Rows L2 WC
section
variable {P : Program} {w : World} {K : PySem.W.Frag} {mg : Str → Option Value} {base h : Heap}
def spAscends (K : PySem.W.Frag) (T : List Addr) : Sp := fun vs H Q _ => ∃ (a : Addr) (ns : List Int), vs = [.ref a] ∧ SqT K H a (vi ns) ∧ Tb T H ∧ ∀ (b : Bool) H', (b = true ↔ Asc ns) → Go T H H' → Q (.bl b) H'
theorem okAscends (z : Zf w K mg base h) : Cal P w K mg base 2 "ascends" ["values"] (spAscends K (tabs K)) := by
  refine cal_of (fdAscends z) (gAscends z) scAscends (fun _ _ _ _ _ _ us hl => match us, hl with | [_], _ => rfl) (fun vs H Q E h => ?_) (fun A outer s H vs Q E hr h => ?_)
  · obtain ⟨a, ns, rfl, _⟩ := h
    rfl
  · obtain ⟨a, ns, rfl, hS, tb, q⟩ := h
    refine ⟨_, (pss_one (ps_ret (GX.pe_all (own := [("low", 1), ("high", 2)]) (g := gTup K 2 (gCons (gName 1) (gCons (gName 2) gNil))) hr (by rfl) (m_all z) (tbAscends z) rfl scAscends.nd (blkOk_by (N := ["values", "low", "high"]) (sc := defScope sAscends) (by decide +kernel)) (RZ.pi_zipA (by rfl) (m_zip z) (pa_cons (pv 0) (pa_cons (pe_slice sl_tupA (pv 0) (po_some pe_int) po_none) pa_nil))) (fun _ _ _ _ _ _ _ _ => pg_tup rfl (pgs_cons (pg_name (i := 1) scAscends.nd rfl (by first | exact Or.inl rfl | exact Or.inr rfl)) (pgs_cons (pg_name (i := 2) scAscends.nd rfl (by first | exact Or.inl rfl | exact Or.inr rfl)) pgs_nil))) (fun _ _ _ _ _ _ _ _ hr' => (pe_cmpR op_lt (pv 1) (pv 2) (nomark _)))))), ?_⟩
    -- the loop, over any pair of tuples of which the second is the first without its head
    have loop : ∀ (b : Addr) (ys : List V) (H1 : Hp), Go (tabs K) H H1 → SqT K H1 b ys → (∀ i, ys[i]? = (vi ns)[i + 1]?) → GxR.TabG H1 (He.tabOf K (He.codeOf K ("ascends", none))) ∧ ∀ H2, GxR.Tabbed (He.tabOf K (He.codeOf K ("ascends", none))) H1 H2 →
        ∃ W : Nat → Nat → Hp → Prop, (∃ m, W 0 m H2) ∧ GX.GTurn (RZ.ItzT K a b) (gTup K 2 (gCons (gName 1) (gCons (gName 2) gNil))) (tOp (rI0 fun i j => .bl (decide (i < j))) (tVar 1) (tVar 2)) [1, 2] (wipe (start ["values", "low", "high"] [.ref a]) [1, 2]) W true (fun b H' => Q (.bl b) H') := by
      intro b ys H1 g1 hb hy
      refine ⟨g1.t1 _ inAscends, fun H2 g2 => ?_⟩
      have g3 := g1.trans (Go.tab g1.t1 inAscends g2)
      have hb2 := (Go.tab g1.t1 inAscends g2).sqT hb
      refine GX.gturn_zipT (xs := vi ns) (ys := ys) (fun i H' => Go (tabs K) H2 H' ∧ ∀ j x y, j < i → ns[j]? = some x → ns[j + 1]? = some y → x < y) ⟨Go.refl g3.t1, fun j x y hj => absurd hj (Nat.not_lt_zero _)⟩ (fun i H' p => ⟨(g3.trans p.1).sqT hS, p.1.sqT hb2⟩) (fun i x y T H' hx hyy p nT => ?_) (fun i H' p hl => ?_)
      · obtain ⟨n, hn, rfl⟩ := vi_get hx
        rw [hy i] at hyy
        obtain ⟨n2, hn2, rfl⟩ := vi_get hyy
        refine ⟨T, [.int n, .int n2], rfl, SqT.of upd_same, rfl, _, _, rfl, _, _, rfl, rfl, rfl, ?_⟩
        refine ⟨_, rfl, _, rfl, n, n2, rfl, rfl, decide (n < n2), rfl, ?_⟩
        by_cases hlt : n < n2
        · rw [if_pos (decide_eq_true hlt)]
          refine ⟨p.1.trans (Go.new p.1.t1 nT), fun j x y hj h1 h2 => ?_⟩
          by_cases e : j = i
          · subst e
            rw [hn] at h1; rw [hn2] at h2
            cases h1; cases h2
            exact hlt
          · exact p.2 j x y (by omega) h1 h2
        · rw [if_neg (by simp [hlt])]
          refine q false _ ⟨fun z => (by cases z), fun z => absurd (z i n n2 hn hn2) hlt⟩ (g3.trans (p.1.trans (Go.new p.1.t1 nT)))
      · refine q true _ ⟨fun _ j x y h1 h2 => p.2 j x y ?_ h1 h2, fun _ => rfl⟩ (g3.trans p.1)
        have z1 : j + 1 < ns.length := (List.getElem?_eq_some_iff.mp h2).1
        have z2 : ys[j]? ≠ none := by
          rw [hy j, List.getElem?_map, h2]
          intro z
          cases z
        have z3 : j < ys.length := by
          rcases Nat.lt_or_ge j ys.length with z | z
          · exact z
          · exact absurd (List.getElem?_eq_none z) z2
        have z4 : (vi ns).length = ns.length := List.length_map ..
        have z5 : ¬ i ≤ j := fun hij => by
          rcases hl with z | z
          · omega
          · omega
        omega
    refine ⟨.ref a, rfl, .ref a, rfl, 1, rfl, a, vi ns, rfl, hS, fun hw => ?_, fun hw p np => ?_⟩
    · have e0 : ns = [] := by
        have z := hw.1
        rw [show HT.sIx (vi ns).length 0 (some 1) = min 1 (vi ns).length from HT.sIx_nat _ 0 1, List.length_map] at z
        exact List.length_eq_zero_iff.mp (by omega)
      subst e0
      exact ⟨a, a, _, _, rfl, .inr ⟨hS, hS, loop a _ H (Go.refl tb) hS (fun i => by simp)⟩⟩
    · have e1 : cutV (vi ns) (some 1) none = (vi ns).drop 1 := by
        unfold cutV
        rw [show HT.sIx (vi ns).length 0 (some 1) = min 1 (vi ns).length from HT.sIx_nat _ 0 1, HT.sIx_none]
        cases hv : vi ns with
        | nil => rfl
        | cons x r =>
          rw [show min 1 (x :: r).length = 1 by rw [List.length_cons]; omega]
          show List.take ((x :: r).length - 1) r = r
          exact List.take_of_length_le (by rw [List.length_cons]; omega)
      rw [e1]
      refine ⟨a, p, _, _, rfl, .inr ⟨(Go.new tb np).sqT hS, SqT.of upd_same, loop p _ _ (Go.new tb np) (SqT.of upd_same) (fun i => by rw [List.getElem?_drop, Nat.add_comm])⟩⟩
end
end K01

namespace K01
open PySem PySem.Spec PyProof.Rows L2 WC
section
variable {P : Program} {w : World} {K : PySem.W.Frag} {mg : Str → Option Value} {base h : Heap}
def SetsFit (hours : Int) (ns : List Int) : Prop := ns.length ≤ 4 ∧ (∀ x ∈ ns, (1 - hours ≤ x ∧ x ≤ hours - 1) ∧ x ≠ 0) ∧ Asc ns
def spIsSettings (K : PySem.W.Frag) (T : List Addr) : Sp := fun vs H Q _ => ∃ (a : Addr) (ns : List Int) (hours : Int), vs = [.ref a, .int hours] ∧ SqT K H a (vi ns) ∧ Tb T H ∧ ∀ (b : Bool) H', (b = true ↔ SetsFit hours ns) → Go T H H' → Q (.bl b) H'
theorem okIsSettings (z : Zf w K mg base h) : Cal P w K mg base 4 "is_settings" ["value", "hours"] (spIsSettings K (tabs K)) := by
  have CIsWithin := okIsWithin (P := P) z
  have CAscends := okAscends (P := P) z
  obtain ⟨t4, k_MOST_SETTINGS⟩ := k_MOST_SETTINGS z
  refine cal_of (fdIsSettings z) (gIsSettings z) scIsSettings (fun _ _ _ _ _ _ us hl => match us, hl with | [_, _], _ => rfl) (fun vs H Q E h => ?_) (fun A outer s H vs Q E hr h => ?_)
  · obtain ⟨a, ns, hours, rfl, _⟩ := h
    rfl
  · obtain ⟨a, ns, hours, rfl, hS, tb, q⟩ := h
    refine ⟨_, (pss_cons (ps_if (PW.pt (pw_or (pt_not (pt_val (pe_callB call_isi (by rfl) (m_isinstance z) (by decide +kernel) (pa_cons (pv 0) (pa_cons (pe_bltn (v := .ty "tuple") (by rfl) (m_tuple z) (by decide +kernel) rfl) pa_nil))))) (pw_or1 (pt_cmpR op_gt (pe_callB call_len_seq (by rfl) (m_len z) (by decide +kernel) (pa_cons (pv 0) pa_nil)) (pe_glob (v := .int 4) (by rfl) k_MOST_SETTINGS ⟨_, rfl⟩) (nomark _))))) (pss_one (ps_ret pe_bl)) pss_nil) (pss_one (ps_ret (pe_and (GX.pe_all (own := [("setting", 2)]) hr (by rfl) (m_all z) (tbIsSettings z) rfl scIsSettings.nd (blkOk_by (N := ["value", "hours", "setting"]) (sc := defScope sIsSettings) (by decide +kernel)) (pi_tup (pv 0)) (fun _ _ _ _ _ _ _ _ => pg_name (i := 2) scIsSettings.nd rfl (by first | exact Or.inl rfl | exact Or.inr rfl)) (fun _ _ _ _ _ _ _ _ hr' => (pe_and (pe_cal CIsWithin (hr'.mono (by decide)) (by rfl) (pa_cons (pv 2) (pa_cons (pe_op op_sub pe_int (pv 1)) (pa_cons (pe_op op_sub (pv 1) pe_int) pa_nil)))) (pe_one (pe_cmpR op_ne (pv 2) pe_int (nomark _)))))) (pe_one (pe_cal CAscends (hr.mono (by decide)) (by rfl) (pa_cons (pv 0) pa_nil))))))), ?_⟩
    refine ⟨_, rfl, _, _, _, _, true, rfl, .ty "tuple", tyT hS, kit_ty (by decide +kernel), true, rfl, iteF ?_⟩
    refine ⟨_, rfl, a, vi ns, rfl, .inr hS, _, _, rfl, rfl, _, rfl, ?_⟩
    have hl : (vi ns).length = ns.length := List.length_map ..
    rw [hl]
    refine ite2 (fun e => ?_) (fun e => ?_)
    · refine q false H ⟨fun z => (by cases z), fun z => ?_⟩ (Go.refl tb)
      have e1 := of_decide_eq_true e
      have e2 := z.1
      omega
    · have few : ns.length ≤ 4 := by
        have e1 := of_decide_eq_false (Bool.eq_false_iff.mpr e)
        omega
      refine ⟨_, rfl, a, rfl, ⟨_, hS⟩, tb _ inIsSettings, fun H2 g2 => ?_⟩
      have g3 := Go.tab tb inIsSettings g2
      refine GX.gturn_tup (xs := vi ns) (fun i H' => Go (tabs K) H2 H' ∧ ∀ j x, j < i → ns[j]? = some x → (1 - hours ≤ x ∧ x ≤ hours - 1) ∧ x ≠ 0) ⟨Go.refl g3.t1, fun j x hj => absurd hj (Nat.not_lt_zero _)⟩ (fun i H' p => (g3.trans p.1).sqT hS) (fun i x H' hx p => ?_) (fun H' p => ?_)
      · obtain ⟨n, hn, rfl⟩ := vi_get hx
        refine ⟨rfl, ?_⟩
        refine ⟨_, rfl, _, rfl, _, _, rfl, rfl, _, rfl, _, _, rfl, rfl, n, 1 - hours, hours - 1, rfl, ?_⟩
        refine ⟨_, rfl, ?_⟩
        by_cases hw : 1 - hours ≤ n ∧ n ≤ hours - 1
        · rw [if_pos (decide_eq_true hw)]
          refine ⟨_, rfl, rfl, _, rfl, ?_⟩
          by_cases h0 : n = 0
          · subst h0
            rw [if_neg (by decide)]
            refine ⟨_, rfl, iteF (q false _ ⟨fun z => (by cases z), fun z => ?_⟩ (g3.trans p.1))⟩
            exact absurd rfl (z.2.1 0 (List.mem_of_getElem? hn)).2
          · rw [if_pos (by simp [h0])]
            refine ⟨p.1, fun j x hj h1 => ?_⟩
            by_cases e2 : j = i
            · subst e2
              rw [hn] at h1; cases h1
              exact ⟨hw, h0⟩
            · exact p.2 j x (by omega) h1
        · rw [if_neg (by simpa using hw)]
          refine ⟨_, rfl, ?_⟩
          rw [if_neg (by decide)]
          refine ⟨_, rfl, iteF (q false _ ⟨fun z => (by cases z), fun z => ?_⟩ (g3.trans p.1))⟩
          exact absurd (z.2.1 n (List.mem_of_getElem? hn)).1 hw
      · refine ⟨_, rfl, iteT ?_⟩
        refine ⟨_, rfl, a, ns, rfl, (g3.trans p.1).sqT hS, p.1.t1, fun b H3 hb g4 => q b H3 ?_ (g3.trans (p.1.trans g4))⟩
        rw [hb]
        refine ⟨fun ha => ⟨few, fun x hx => ?_, ha⟩, fun z => z.2.2⟩
        obtain ⟨j, hj, e1⟩ := List.getElem_of_mem hx
        exact p.2 j x (by rw [hl]; exact hj) (by rw [List.getElem?_eq_getElem hj, e1])
end
end K01

namespace K01
open PySem PySem.Spec PyProof.Rows L2 WC
section
variable {P : Program} {w : World} {K : PySem.W.Frag} {mg : Str → Option Value} {base h : Heap}
def spWrongPart (K : PySem.W.Frag) (T : List Addr) : Sp := fun vs H Q _ => ∃ (a : Addr) (M : Alm), vs = [.ref a] ∧ AlmAt K H a M ∧ M.Ok ∧ Tb T H ∧ ∀ H', Go T H H' → Q .non H'
theorem okWrongPart (z : Zf w K mg base h) : Cal P w K mg base 5 "wrong_part" ["almanac"] (spWrongPart K (tabs K)) := by
  have CIsWithin := okIsWithin (P := P) z
  have CIsSettings := okIsSettings (P := P) z
  obtain ⟨t1, k_MOST_LATE⟩ := k_MOST_LATE z
  obtain ⟨t2, k_MOST_REST⟩ := k_MOST_REST z
  refine cal_of (fdWrongPart z) (gWrongPart z) scWrongPart (fun _ _ _ _ _ _ us hl => match us, hl with | [_], _ => rfl) (fun vs H Q E h => ?_) (fun A outer s H vs Q E hr h => ?_)
  · obtain ⟨a, M, rfl, _⟩ := h
    rfl
  · obtain ⟨a, M, rfl, ⟨s1, hS, hs⟩, ok, tb, q⟩ := h
    refine ⟨_, (pss_cons (ps_asg (pv 0) (pg_tup rfl (pgs_cons (pg_name (i := 1) scWrongPart.nd rfl (by first | exact Or.inl rfl | exact Or.inr rfl)) (pgs_cons (pg_name (i := 2) scWrongPart.nd rfl (by first | exact Or.inl rfl | exact Or.inr rfl)) (pgs_cons (pg_name (i := 3) scWrongPart.nd rfl (by first | exact Or.inl rfl | exact Or.inr rfl)) (pgs_cons (pg_name (i := 4) scWrongPart.nd rfl (by first | exact Or.inl rfl | exact Or.inr rfl)) (pgs_cons (pg_name (i := 5) scWrongPart.nd rfl (by first | exact Or.inl rfl | exact Or.inr rfl)) (pgs_cons (pg_name (i := 6) scWrongPart.nd rfl (by first | exact Or.inl rfl | exact Or.inr rfl)) (pgs_cons (pg_name (i := 7) scWrongPart.nd rfl (by first | exact Or.inl rfl | exact Or.inr rfl)) pgs_nil))))))))) (pss_cons (ps_if (pt_not (pt_val (pe_cal CIsWithin (hr.mono (by decide)) (by rfl) (pa_cons (pv 1) (pa_cons pe_int (pa_cons pe_int pa_nil)))))) (pss_one (ps_ret pe_str)) pss_nil) (pss_cons (ps_if (pt_not (pt_val (pe_cal CIsWithin (hr.mono (by decide)) (by rfl) (pa_cons (pv 2) (pa_cons pe_int (pa_cons (pe_op op_sub (pv 1) pe_int) pa_nil)))))) (pss_one (ps_ret pe_str)) pss_nil) (pss_cons (ps_if (pt_not (pt_val (pe_cal CIsWithin (hr.mono (by decide)) (by rfl) (pa_cons (pv 3) (pa_cons (pv 2) (pa_cons (pe_op op_sub (pe_op op_add (pv 2) (pv 1)) pe_int) pa_nil)))))) (pss_one (ps_ret pe_str)) pss_nil) (pss_cons (ps_if (pt_not (pt_val (pe_cal CIsWithin (hr.mono (by decide)) (by rfl) (pa_cons (pv 4) (pa_cons pe_int (pa_cons (pe_glob (v := .int 24) (by rfl) k_MOST_LATE ⟨_, rfl⟩) pa_nil)))))) (pss_one (ps_ret pe_str)) pss_nil) (pss_cons (ps_if (pt_not (pt_val (pe_cal CIsWithin (hr.mono (by decide)) (by rfl) (pa_cons (pv 5) (pa_cons (pv 4) (pa_cons (pe_glob (v := .int 24) (by rfl) k_MOST_LATE ⟨_, rfl⟩) pa_nil)))))) (pss_one (ps_ret pe_str)) pss_nil) (pss_cons (ps_if (pt_not (pt_val (pe_cal CIsSettings (hr.mono (by decide)) (by rfl) (pa_cons (pv 6) (pa_cons (pv 1) pa_nil))))) (pss_one (ps_ret pe_str)) pss_nil) (pss_cons (ps_if (pt_not (pt_val (pe_cal CIsWithin (hr.mono (by decide)) (by rfl) (pa_cons (pv 7) (pa_cons pe_int (pa_cons (pe_glob (v := .int 12) (by rfl) k_MOST_REST ⟨_, rfl⟩) pa_nil)))))) (pss_one (ps_ret pe_str)) pss_nil) (pss_one (ps_ret pe_non)))))))))), ?_⟩
    refine ⟨_, rfl, a, _, rfl, hS, rfl, _, _, rfl, _, _, rfl, _, _, rfl, _, _, rfl, _, _, rfl, _, _, rfl, _, _, rfl, rfl, ?_⟩
    refine ⟨_, rfl, _, _, _, rfl, _, rfl, iteNS ok.hours ?_⟩
    refine ⟨_, rfl, _, rfl, _, _, rfl, rfl, _, _, _, rfl, _, rfl, iteNS ok.first ?_⟩
    refine ⟨_, rfl, _, rfl, _, rfl, _, rfl, _, _, rfl, rfl, _, _, rfl, rfl, _, _, _, rfl, _, rfl, iteNS ok.last ?_⟩
    refine ⟨_, rfl, _, _, _, rfl, _, rfl, iteNS ok.soon ?_⟩
    refine ⟨_, rfl, _, rfl, _, _, _, rfl, _, rfl, iteNS ok.late ?_⟩
    refine ⟨_, rfl, _, rfl, s1, M.sets, M.hours, rfl, hs, tb, fun b H1 hb g1 => ⟨_, rfl, ?_⟩⟩
    rw [hb.mpr ⟨ok.few, ok.sets, ok.asc⟩]
    refine iteF ?_
    refine ⟨_, rfl, _, _, _, rfl, _, rfl, iteNS ok.rest ?_⟩
    exact q _ g1
def spCheckAlmanac (K : PySem.W.Frag) (T : List Addr) : Sp := spWrongPart K T
theorem okCheckAlmanac (z : Zf w K mg base h) : Cal P w K mg base 6 "check_almanac" ["almanac"] (spCheckAlmanac K (tabs K)) := by
  have CIsTupleOf := okIsTupleOf (P := P) z
  have CWrongPart := okWrongPart (P := P) z
  refine cal_of (fdCheckAlmanac z) (gCheckAlmanac z) scCheckAlmanac (fun _ _ _ _ _ _ us hl => match us, hl with | [_], _ => rfl) (fun vs H Q E h => ?_) (fun A outer s H vs Q E hr h => ?_)
  · obtain ⟨a, M, rfl, _⟩ := h
    rfl
  · obtain ⟨a, M, rfl, hA, ok, tb, q⟩ := h
    refine ⟨_, (pss_cons (ps_if (pt_not (pt_val (pe_cal CIsTupleOf (hr.mono (by decide)) (by rfl) (pa_cons (pv 0) (pa_cons pe_int pa_nil))))) (pss_one (ps_never)) pss_nil) (pss_cons (ps_set (i := 1) scCheckAlmanac.nd rfl (by first | exact Or.inl rfl | exact Or.inr rfl) (pe_cal CWrongPart (hr.mono (by decide)) (by rfl) (pa_cons (pv 0) pa_nil))) (pss_one (ps_if (pt_cmpR op_notN (pv 1) pe_non (nomark _)) (pss_one (ps_never)) pss_nil)))), ?_⟩
    obtain ⟨s1, hS, hs⟩ := id hA
    refine ⟨_, rfl, a, _, _, rfl, hS, _, rfl, iteNS rfl ?_⟩
    refine ⟨_, rfl, a, M, rfl, hA, ok, tb, fun H1 g1 => ?_⟩
    refine ⟨_, rfl, rfl, _, rfl, iteNS rfl ?_⟩
    exact q _ g1
/-- the gaps of a story's wakings, the first one 0 -/
def WakesFit (M : Alm) (ws : List Int) : Prop := (1 ≤ ws.length ∧ ws.length ≤ 60) ∧ ws[0]? = some 0 ∧ gapsOk M ws
def spAreWakings (K : PySem.W.Frag) (T : List Addr) : Sp := fun vs H Q _ => ∃ (a b : Addr) (M : Alm) (ws : List Int), vs = [.ref a, .ref b] ∧ AlmAt K H a M ∧ SqT K H b (vi ws) ∧ Tb T H ∧ ∀ (c : Bool) H', (c = true ↔ WakesFit M ws) → Go T H H' → Q (.bl c) H'
theorem okAreWakings (z : Zf w K mg base h) : Cal P w K mg base 3 "are_wakings" ["almanac", "value"] (spAreWakings K (tabs K)) := by
  have CIsInteger := okIsInteger (P := P) z
  obtain ⟨t1, k_MOST_WAKINGS⟩ := k_MOST_WAKINGS z
  refine cal_of (fdAreWakings z) (gAreWakings z) scAreWakings (fun _ _ _ _ _ _ us hl => match us, hl with | [_, _], _ => rfl) (fun vs H Q E h => ?_) (fun A outer s H vs Q E hr h => ?_)
  · obtain ⟨a, b, M, ws, rfl, _⟩ := h
    rfl
  · obtain ⟨a, b, M, ws, rfl, ⟨s1, hA, hs⟩, hW, tb, q⟩ := h
    refine ⟨_, (pss_cons (ps_if (PW.pt (pw_or (pt_not (pt_val (pe_callB call_isi (by rfl) (m_isinstance z) (by decide +kernel) (pa_cons (pv 1) (pa_cons (pe_bltn (v := .ty "tuple") (by rfl) (m_tuple z) (by decide +kernel) rfl) pa_nil))))) (pw_or1 (pt_not (pt_chain op_le op_le pe_int (pe_callB call_len_seq (by rfl) (m_len z) (by decide +kernel) (pa_cons (pv 1) pa_nil)) (pe_glob (v := .int 60) (by rfl) k_MOST_WAKINGS ⟨_, rfl⟩)))))) (pss_one (ps_ret pe_bl)) pss_nil) (pss_cons (ps_if (PW.pt (pw_or (pt_not (pt_val (GX.pe_all (own := [("hour", 2)]) hr (by rfl) (m_all z) (tbAreWakings z) rfl scAreWakings.nd (blkOk_by (N := ["almanac", "value", "hour", "soon", "late", "before"]) (sc := defScope sAreWakings) (by decide +kernel)) (pi_tup (pv 1)) (fun _ _ _ _ _ _ _ _ => pg_name (i := 2) scAreWakings.nd rfl (by first | exact Or.inl rfl | exact Or.inr rfl)) (fun _ _ _ _ _ _ _ _ hr' => (pe_cal CIsInteger (hr'.mono (by decide)) (by rfl) (pa_cons (pv 2) pa_nil)))))) (pw_or1 (pt_cmpR op_ne (pe_ix ix_tup (pv 1) pe_int (fun _ _ => rfl)) pe_int (nomark _))))) (pss_one (ps_ret pe_bl)) pss_nil) (pss_cons (ps_asg (pe_tup (pa_cons (pe_ix ix_tup (pv 0) pe_int (fun _ _ => rfl)) (pa_cons (pe_ix ix_tup (pv 0) pe_int (fun _ _ => rfl)) pa_nil))) (pg_tup rfl (pgs_cons (pg_name (i := 3) scAreWakings.nd rfl (by first | exact Or.inl rfl | exact Or.inr rfl)) (pgs_cons (pg_name (i := 4) scAreWakings.nd rfl (by first | exact Or.inl rfl | exact Or.inr rfl)) pgs_nil)))) (pss_one (ps_ret (GX.pe_all (own := [("before", 5), ("hour", 2)]) (g := gTup K 2 (gCons (gName 5) (gCons (gName 2) gNil))) hr (by rfl) (m_all z) (tbAreWakings z) rfl scAreWakings.nd (blkOk_by (N := ["almanac", "value", "hour", "soon", "late", "before"]) (sc := defScope sAreWakings) (by decide +kernel)) (RZ.pi_zipA (by rfl) (m_zip z) (pa_cons (pv 1) (pa_cons (pe_slice sl_tupA (pv 1) (po_some pe_int) po_none) pa_nil))) (fun _ _ _ _ _ _ _ _ => pg_tup rfl (pgs_cons (pg_name (i := 5) scAreWakings.nd rfl (by first | exact Or.inl rfl | exact Or.inr rfl)) (pgs_cons (pg_name (i := 2) scAreWakings.nd rfl (by first | exact Or.inl rfl | exact Or.inr rfl)) pgs_nil))) (fun _ _ _ _ _ _ _ _ hr' => (pe_chain op_le op_le (pv 3) (pe_op op_sub (pv 2) (pv 5)) (pv 4))))))))), ?_⟩
    have hl : (vi ws).length = ws.length := List.length_map ..
    refine ⟨_, rfl, _, _, _, _, true, rfl, .ty "tuple", tyT hW, kit_ty (by decide +kernel), true, rfl, iteF ?_⟩
    refine ⟨_, rfl, b, vi ws, rfl, .inr hW, _, _, rfl, rfl, _, rfl, ?_⟩
    rw [hl]
    have no : ¬ (1 ≤ ws.length ∧ ws.length ≤ 60) → Q (.bl false) H := fun e => q false H ⟨fun z => (by cases z), fun z => (e z.1).elim⟩ (Go.refl tb)
    refine ite2 (fun e1 => ?_) (fun e1 => ?_)
    · have l1 : 1 ≤ ws.length := by
        have := of_decide_eq_true e1
        omega
      refine ⟨_, _, rfl, rfl, _, rfl, ?_⟩
      by_cases l2 : ws.length ≤ 60
      · rw [decide_eq_true (show (ws.length : Int) ≤ 60 by omega)]
        refine iteNT ?_
        -- all ints, the first one 0
        refine ⟨_, rfl, b, rfl, ⟨_, hW⟩, tb _ inAreWakings, fun H2 g2 => ?_⟩
        have g3 := Go.tab tb inAreWakings g2
        refine GX.gturn_tup (xs := vi ws) (fun i H' => Go (tabs K) H2 H') (Go.refl g3.t1) (fun i H' p => (g3.trans p).sqT hW) (fun i x H' hx p => ?_) (fun H3 p => ?_)
        · obtain ⟨n, hn, rfl⟩ := vi_get hx
          exact ⟨rfl, _, rfl, n, rfl, true, rfl, p⟩
        · have g4 := g3.trans p
          obtain ⟨w0, h0⟩ : ∃ w0, ws[0]? = some w0 := ⟨ws[0], List.getElem?_eq_getElem (by omega)⟩
          refine ⟨true, rfl, iteNT ?_⟩
          refine ⟨_, rfl, b, vi ws, 0, _, rfl, rfl, g4.sqT hW, atI_nat (j := 0) (vi_at h0), rfl, _, rfl, ?_⟩
          by_cases z0 : w0 = 0
          · subst z0
            refine iteF ?_
            refine ⟨_, rfl, a, _, 3, _, rfl, rfl, g4.sqT hA, rfl, _, rfl, a, _, 4, _, rfl, rfl, g4.sqT hA, rfl, two_line, fun p1 np => ⟨p1, _, rfl, SqT.of upd_same, rfl, _, _, rfl, _, _, rfl, rfl, ?_⟩⟩
            have g5 := g4.trans (Go.new (o := .tup [.int M.soon, .int M.late]) g4.t1 np)
            refine ⟨_, rfl, _, rfl, 1, rfl, sl1 g5.t1 (g5.sqT hW) fun c H5 g6 hc => ?_⟩
            have g7 := g5.trans g6
            refine ⟨b, c, _, _, rfl, .inr ⟨g7.sqT hW, hc, g7.t1 _ inAreWakings, fun H6 g8 => ?_⟩⟩
            have g9 := Go.tab g7.t1 inAreWakings g8
            refine GX.gturn_zipT (xs := vi ws) (ys := (vi ws).drop 1) (fun i H' => Go (tabs K) H6 H' ∧ ∀ j x y, j < i → ws[j]? = some x → ws[j + 1]? = some y → M.soon ≤ y - x ∧ y - x ≤ M.late) ⟨Go.refl g9.t1, fun j x y hj => absurd hj (Nat.not_lt_zero _)⟩
              (fun i H' p => ⟨(g7.trans (g9.trans p.1)).sqT hW, (g9.trans p.1).sqT hc⟩) (fun i x y S H' hx hy p nS => ?_) (fun i H' p hlen => ?_)
            · obtain ⟨n, hn, rfl⟩ := vi_get hx
              rw [List.getElem?_drop, Nat.add_comm] at hy
              obtain ⟨n2, hn2, rfl⟩ := vi_get hy
              refine ⟨S, [.int n, .int n2], rfl, SqT.of upd_same, rfl, _, _, rfl, _, _, rfl, rfl, rfl, ?_⟩
              refine ⟨_, rfl, _, rfl, _, rfl, _, _, rfl, rfl, _, _, rfl, rfl, _, rfl, ?_⟩
              have g10 : ∀ o, Go (tabs K) H (upd H' S o) := fun o => g7.trans (g9.trans (p.1.trans (Go.new p.1.t1 nS)))
              by_cases k1 : M.soon ≤ n2 - n
              · rw [if_pos (decide_eq_true k1)]
                refine ⟨_, rfl, _, _, rfl, rfl, _, rfl, ?_⟩
                by_cases k2 : n2 - n ≤ M.late
                · rw [if_pos (decide_eq_true k2)]
                  refine ⟨p.1.trans (Go.new p.1.t1 nS), fun j x y hj h1 h2 => ?_⟩
                  by_cases e : j = i
                  · subst e
                    rw [hn] at h1; rw [hn2] at h2
                    cases h1; cases h2
                    exact ⟨k1, k2⟩
                  · exact p.2 j x y (by omega) h1 h2
                · rw [if_neg (by simp [k2])]
                  exact q false _ ⟨fun z => (by cases z), fun z => absurd (z.2.2 i n n2 hn hn2).2 k2⟩ (g10 _)
              · rw [if_neg (by simp [k1])]
                refine ⟨false, rfl, ?_⟩
                rw [if_neg (by decide)]
                exact q false _ ⟨fun z => (by cases z), fun z => absurd (z.2.2 i n n2 hn hn2).1 k1⟩ (g10 _)
            · refine q true _ ⟨fun _ => ⟨⟨l1, l2⟩, h0, fun j x y h1 h2 => p.2 j x y ?_ h1 h2⟩, fun _ => rfl⟩ (g7.trans (g9.trans p.1))
              have z1 : j + 1 < ws.length := (List.getElem?_eq_some_iff.mp h2).1
              rw [List.length_drop, hl] at hlen
              omega
          · have e : (!decide (V.int w0 = V.int 0)) = true := by simp [z0]
            rw [e]
            refine iteT ?_
            exact q false _ ⟨fun z => (by cases z), fun z => absurd (Option.some.inj (h0.symm.trans z.2.1)) z0⟩ g4
      · rw [decide_eq_false (show ¬ (ws.length : Int) ≤ 60 by omega)]
        exact iteNF (no fun z => l2 z.2)
    · refine ⟨false, rfl, iteNF (no fun z => e1 (decide_eq_true (by omega)))⟩
end
end K01

namespace K01
open PySem PySem.Spec PyProof.Rows L2 WC
section
variable {P : Program} {w : World} {K : PySem.W.Frag} {mg : Str → Option Value} {base h : Heap}
def spAreSets (K : PySem.W.Frag) : Sp := fun vs H Q _ => ∃ (a b : Addr) (M : Alm) (ps : List (Int × Int)) (l : Int), vs = [.ref a, .ref b, .int l] ∧ AlmAt K H a M ∧ PairsAt K H b ps ∧ Q (.bl (setsOk M l 1 ps)) H
theorem okAreSets (z : Zf w K mg base h) : Cal P w K mg base 3 "are_sets" ["almanac", "value", "last_waking"] (spAreSets K) := by
  have CIsTupleOf := okIsTupleOf (P := P) z
  have CIsWithin := okIsWithin (P := P) z
  have CIsInteger := okIsInteger (P := P) z
  refine cal_of (fdAreSets z) (gAreSets z) scAreSets (fun _ _ _ _ _ _ us hl => match us, hl with | [_, _, _], _ => rfl) (fun vs H Q E h => ?_) (fun A outer s H vs Q E hr h => ?_)
  · obtain ⟨a, b, M, ps, l, rfl, _⟩ := h
    rfl
  · obtain ⟨a, b, M, ps, l, rfl, ⟨s1, hA, hs⟩, ⟨rs, hB, hlen, hP⟩, q⟩ := h
    refine ⟨_, (pss_cons (ps_if (pt_not (pt_val (pe_callB call_isi (by rfl) (m_isinstance z) (by decide +kernel) (pa_cons (pv 1) (pa_cons (pe_bltn (v := .ty "tuple") (by rfl) (m_tuple z) (by decide +kernel) rfl) pa_nil))))) (pss_one (ps_ret pe_bl)) pss_nil) (pss_cons (ps_par (i := 3) (j := 4) rfl scAreSets.nd rfl rfl (by decide) rfl rfl (pa_cons (pe_ix ix_tup (pv 0) pe_int (fun _ _ => rfl)) (pa_cons (pe_ix ix_tup (pv 0) pe_int (fun _ _ => rfl)) pa_nil)) (by rfl)) (pss_cons (ps_set (i := 5) scAreSets.nd rfl (by first | exact Or.inl rfl | exact Or.inr rfl) pe_int) (pss_cons (ps_for PassesOwn.never rfl (pi_tup (pv 1)) (pg_name (i := 6) scAreSets.nd rfl (by first | exact Or.inl rfl | exact Or.inr rfl)) (pss_cons (ps_if (pt_not (pt_val (pe_cal CIsTupleOf (hr.mono (by decide)) (by rfl) (pa_cons (pv 6) (pa_cons pe_int pa_nil))))) (pss_one (ps_ret pe_bl)) pss_nil) (pss_cons (ps_asg (pv 6) (pg_tup rfl (pgs_cons (pg_name (i := 7) scAreSets.nd rfl (by first | exact Or.inl rfl | exact Or.inr rfl)) (pgs_cons (pg_name (i := 8) scAreSets.nd rfl (by first | exact Or.inl rfl | exact Or.inr rfl)) pgs_nil)))) (pss_cons (ps_if (pt_not (pt_val (pe_cal CIsWithin (hr.mono (by decide)) (by rfl) (pa_cons (pv 7) (pa_cons (pv 5) (pa_cons (pv 2) pa_nil)))))) (pss_one (ps_ret pe_bl)) pss_nil) (pss_cons (ps_if (PW.pt (pw_or (pt_not (pt_val (pe_cal CIsInteger (hr.mono (by decide)) (by rfl) (pa_cons (pv 8) pa_nil)))) (pw_or1 (pt_cmpR op_notIn_seq (pv 8) (pv 3) (by rfl))))) (pss_one (ps_ret pe_bl)) pss_nil) (pss_one (ps_set (i := 5) scAreSets.nd rfl (by first | exact Or.inl rfl | exact Or.inr rfl) (pe_op op_add (pv 7) (pv 4))))))))) (pss_one (ps_ret pe_bl)))))), ?_⟩
    refine ⟨_, rfl, _, _, _, _, true, rfl, .ty "tuple", tyT hB, kit_ty (by decide +kernel), true, rfl, iteNT ?_⟩
    refine ⟨_, rfl, a, _, 5, _, rfl, rfl, hA, rfl, _, rfl, a, _, 6, _, rfl, rfl, hA, rfl, _, _, rfl, ?_⟩
    refine ⟨_, rfl, b, rfl, ⟨_, hB⟩, for_tup (xs := rs.map V.ref) (fun i σ H' => H' = H ∧ ∃ f e1 e2 e3, σ = [some (.ref a), some (.ref b), some (.int l), some (.ref s1), some (.int M.rest), some (.int f), e1, e2, e3] ∧ setsOk M l 1 ps = setsOk M l f (ps.drop i))
      ⟨rfl, 1, none, none, none, rfl, rfl⟩ (fun i σ H' _ p => by rw [p.1]; exact hB) (fun i x σ H' hx p => ?_) (fun σ H' p => ?_)⟩
    · obtain ⟨rfl, f, e1, e2, e3, rfl, hset⟩ := p
      rw [List.getElem?_map] at hx
      obtain ⟨r, hr1, rfl⟩ : ∃ r, rs[i]? = some r ∧ V.ref r = x := by
        cases q2 : rs[i]? with
        | none => rw [q2] at hx; cases hx
        | some r => rw [q2] at hx; exact ⟨r, rfl, Option.some.inj hx⟩
      have hi : i < ps.length := by
        have := (List.getElem?_eq_some_iff.mp hr1).1
        omega
      have hp1 : ps[i]? = some ps[i] := List.getElem?_eq_getElem hi
      have hR := hP i r _ hr1 hp1
      have hd : ps.drop i = (ps[i].1, ps[i].2) :: ps.drop (i + 1) := List.drop_eq_getElem_cons hi
      rw [hd, setsOk_cons] at hset
      generalize ps[i].1 = ho at hR hset
      generalize ps[i].2 = st at hR hset
      refine ⟨_, rfl, r, _, 2, rfl, hR, _, rfl, iteNS rfl ?_⟩
      refine ⟨_, rfl, r, _, rfl, hR, rfl, _, _, rfl, _, _, rfl, rfl, ?_⟩
      refine ⟨_, rfl, _, rfl, _, rfl, ho, f, l, rfl, _, rfl, ?_⟩
      by_cases k1 : f ≤ ho ∧ ho ≤ l
      · refine iteNS k1 ?_
        refine ⟨_, rfl, st, rfl, true, rfl, iteNT ?_⟩
        refine ⟨_, rfl, _, rfl, s1, vi M.sets, rfl, .inr hs, rfl, flat_vi _, _, rfl, ?_⟩
        rw [if_pos rfl, inV_int]
        by_cases k2 : st ∈ M.sets
        · refine iteNS k2 ?_
          refine ⟨_, rfl, _, rfl, _, _, rfl, rfl, rfl, _, _, _, _, rfl, ?_⟩
          rw [hset, decide_eq_true k1, decide_eq_true k2, Bool.true_and, Bool.true_and]
        · rw [decide_eq_false k2]
          refine iteT ?_
          rw [decide_eq_false k2, Bool.and_false, Bool.false_and] at hset
          rw [hset] at q
          exact q
      · rw [decide_eq_false k1]
        refine iteNF ?_
        rw [decide_eq_false k1, Bool.false_and, Bool.false_and] at hset
        rw [hset] at q
        exact q
    · obtain ⟨rfl, f, e1, e2, e3, rfl, hset⟩ := p
      rw [List.length_map, List.drop_of_length_le (by omega)] at hset
      rw [hset] at q
      exact q
def spIsStory (K : PySem.W.Frag) (T : List Addr) : Sp := fun vs H Q _ => ∃ (a b : Addr) (M : Alm) (ws : List Int) (ps : List (Int × Int)), vs = [.ref a, .ref b] ∧ AlmAt K H a M ∧ StoryAt K H b ws ps ∧ StoryOk M ws ps ∧ Tb T H ∧ ∀ H', Go T H H' → Q (.bl true) H'
theorem okIsStory (z : Zf w K mg base h) : Cal P w K mg base 4 "is_story" ["almanac", "value"] (spIsStory K (tabs K)) := by
  have CIsTupleOf := okIsTupleOf (P := P) z
  have CAreWakings := okAreWakings (P := P) z
  have CAreSets := okAreSets (P := P) z
  refine cal_of (fdIsStory z) (gIsStory z) scIsStory (fun _ _ _ _ _ _ us hl => match us, hl with | [_, _], _ => rfl) (fun vs H Q E h => ?_) (fun A outer s H vs Q E hr h => ?_)
  · obtain ⟨a, b, M, ws, ps, rfl, _⟩ := h
    rfl
  · obtain ⟨a, b, M, ws, ps, rfl, hA, ⟨x, y, hB, hX, hY⟩, ok, tb, q⟩ := h
    refine ⟨_, (pss_cons (ps_if (pt_not (pt_val (pe_cal CIsTupleOf (hr.mono (by decide)) (by rfl) (pa_cons (pv 1) (pa_cons pe_int pa_nil))))) (pss_one (ps_ret pe_bl)) pss_nil) (pss_cons (ps_asg (pv 1) (pg_tup rfl (pgs_cons (pg_name (i := 2) scIsStory.nd rfl (by first | exact Or.inl rfl | exact Or.inr rfl)) (pgs_cons (pg_name (i := 3) scIsStory.nd rfl (by first | exact Or.inl rfl | exact Or.inr rfl)) pgs_nil)))) (pss_one (ps_ret (pe_and (pe_cal CAreWakings (hr.mono (by decide)) (by rfl) (pa_cons (pv 0) (pa_cons (pv 2) pa_nil))) (pe_one (pe_cal CAreSets (hr.mono (by decide)) (by rfl) (pa_cons (pv 0) (pa_cons (pv 3) (pa_cons (pe_ix ix_tup (pv 2) (pe_un un_neg pe_int) (fun _ _ => rfl)) pa_nil)))))))))), ?_⟩
    refine ⟨_, rfl, b, _, 2, rfl, hB, _, rfl, iteNS rfl ?_⟩
    refine ⟨_, rfl, b, _, rfl, hB, rfl, _, _, rfl, _, _, rfl, rfl, ?_⟩
    refine ⟨_, rfl, _, rfl, a, x, M, ws, rfl, hA, hX, tb, fun c H1 hc g1 => ⟨_, rfl, ?_⟩⟩
    rw [hc.mpr ⟨ok.few, ok.start, ok.gaps⟩]
    refine iteT ?_
    obtain ⟨l, hl⟩ : ∃ l, ws.getLast? = some l := by
      cases e : ws.getLast? with
      | none =>
        have z2 := ok.few.1
        rw [List.getLast?_eq_none_iff.mp e] at z2
        exact absurd z2 (by decide)
      | some l => exact ⟨l, rfl⟩
    have hla : atI (vi ws) (-1) = some (.int l) := by
      obtain ⟨ys, rfl⟩ := List.getLast?_eq_some_iff.mp hl
      rw [show vi (ys ++ [l]) = vi ys ++ [.int l] from List.map_append ..]
      exact atI_last _ _
    refine ⟨_, rfl, _, rfl, _, rfl, 1, rfl, x, vi ws, -1, _, rfl, rfl, g1.sqT hX, hla, a, y, M, ps, l, rfl, g1.alm hA, g1.pairs hY, ?_⟩
    rw [ok.sets l hl]
    exact q _ g1
def spCheckStory (K : PySem.W.Frag) (T : List Addr) : Sp := fun vs H Q _ => ∃ (a b : Addr) (M : Alm) (ws : List Int) (ps : List (Int × Int)), vs = [.ref a, .ref b] ∧ AlmAt K H a M ∧ StoryAt K H b ws ps ∧ StoryOk M ws ps ∧ Tb T H ∧ ∀ H', Go T H H' → Q .non H'
theorem okCheckStory (z : Zf w K mg base h) : Cal P w K mg base 5 "check_story" ["almanac", "story"] (spCheckStory K (tabs K)) := by
  have CIsStory := okIsStory (P := P) z
  refine cal_of (fdCheckStory z) (gCheckStory z) scCheckStory (fun _ _ _ _ _ _ us hl => match us, hl with | [_, _], _ => rfl) (fun vs H Q E h => ?_) (fun A outer s H vs Q E hr h => ?_)
  · obtain ⟨a, b, M, ws, ps, rfl, _⟩ := h
    rfl
  · obtain ⟨a, b, M, ws, ps, rfl, hA, hB, ok, tb, q⟩ := h
    refine ⟨_, (pss_one (ps_if (pt_not (pt_val (pe_cal CIsStory (hr.mono (by decide)) (by rfl) (pa_cons (pv 0) (pa_cons (pv 1) pa_nil))))) (pss_one (ps_never)) pss_nil)), ?_⟩
    exact ⟨_, rfl, _, rfl, a, b, M, ws, ps, rfl, hA, hB, ok, tb, fun H' g => ⟨_, rfl, iteNT (q _ g)⟩⟩
def spCheckHour : Sp := fun vs H Q _ => ∃ n : Int, vs = [.int n] ∧ (0 ≤ n ∧ n ≤ 1000000000) ∧ Q .non H
theorem okCheckHour (z : Zf w K mg base h) : Cal P w K mg base 3 "check_hour" ["hour"] spCheckHour := by
  have CIsWithin := okIsWithin (P := P) z
  obtain ⟨t1, k_LAST_HOUR⟩ := k_LAST_HOUR z
  refine cal_of (fdCheckHour z) (gCheckHour z) scCheckHour (fun _ _ _ _ _ _ us hl => match us, hl with | [_], _ => rfl) (fun vs H Q E h => ?_) (fun A outer s H vs Q E hr h => ?_)
  · obtain ⟨n, rfl, _⟩ := h
    rfl
  · obtain ⟨n, rfl, ok, q⟩ := h
    refine ⟨_, (pss_one (ps_if (pt_not (pt_val (pe_cal CIsWithin (hr.mono (by decide)) (by rfl) (pa_cons (pv 0) (pa_cons pe_int (pa_cons (pe_glob (v := .int 1000000000) (by rfl) k_LAST_HOUR ⟨_, rfl⟩) pa_nil)))))) (pss_one (ps_never)) pss_nil)), ?_⟩
    exact ⟨_, rfl, n, 0, 1000000000, rfl, _, rfl, iteNS ok q⟩
end
end K01

namespace K01
open PySem PySem.Spec PyProof.Rows L2 WC
section
variable {P : Program} {w : World} {K : PySem.W.Frag} {mg : Str → Option Value} {base h : Heap}
def shutN (M : Alm) (n : Int) : Int := if (n - 1 - M.last) / M.hours + 1 > 0 then (n - 1 - M.last) / M.hours + 1 else 0
def openN (M : Alm) (n : Int) : Int := (n - M.first) / M.hours + 1
def spAlm1 (K : PySem.W.Frag) (f : Alm → Int → Int) : Sp := fun vs H Q _ => ∃ (a : Addr) (M : Alm) (n : Int), vs = [.ref a, .int n] ∧ AlmAt K H a M ∧ M.Ok ∧ Q (.int (f M n)) H
theorem hoursDiv {M : Alm} (ok : M.Ok) : M.hours ≠ 0 ∧ M.hours.natAbs < 1073741824 := by
  have := ok.hours
  omega
theorem okShutBefore (z : Zf w K mg base h) : Cal P w K mg base 1 "shut_before" ["almanac", "hour"] (spAlm1 K shutN) := by
  refine cal_of (fdShutBefore z) (gShutBefore z) scShutBefore (fun _ _ _ _ _ _ us hl => match us, hl with | [_, _], _ => rfl) (fun vs H Q E h => ?_) (fun A outer s H vs Q E hr h => ?_)
  · obtain ⟨a, M, n, rfl, _⟩ := h
    rfl
  · obtain ⟨a, M, n, rfl, ⟨s1, hA, hs⟩, ok, q⟩ := h
    refine ⟨_, (pss_cons (ps_par (i := 2) (j := 3) rfl scShutBefore.nd rfl rfl (by decide) rfl rfl (pa_cons (pe_ix ix_tup (pv 0) pe_int (fun _ _ => rfl)) (pa_cons (pe_ix ix_tup (pv 0) pe_int (fun _ _ => rfl)) pa_nil)) (by rfl)) (pss_one (ps_ret (pe_callB (call_max2 rfl) (by rfl) (m_max z) (by decide +kernel) (pa_cons pe_int (pa_cons (pe_op op_add (pe_op op_fdivN (pe_op op_sub (pe_op op_sub (pv 1) pe_int) (pv 3)) (pv 2)) pe_int) pa_nil)))))), ?_⟩
    refine ⟨_, rfl, a, _, 0, _, rfl, rfl, hA, rfl, _, rfl, a, _, 2, _, rfl, rfl, hA, rfl, _, _, rfl, ?_⟩
    refine ⟨_, rfl, _, _, rfl, rfl, _, rfl, _, _, rfl, rfl, _, rfl, _, _, rfl, rfl, hoursDiv ok, _, _, rfl, rfl, _, _, rfl, ?_⟩
    have e : (n - 1 - M.last).fdiv M.hours = (n - 1 - M.last) / M.hours := Int.fdiv_eq_ediv_of_nonneg _ (by have := ok.hours; omega)
    rw [e]
    exact q
theorem okOpenedBy (z : Zf w K mg base h) : Cal P w K mg base 1 "opened_by" ["almanac", "hour"] (spAlm1 K openN) := by
  refine cal_of (fdOpenedBy z) (gOpenedBy z) scOpenedBy (fun _ _ _ _ _ _ us hl => match us, hl with | [_, _], _ => rfl) (fun vs H Q E h => ?_) (fun A outer s H vs Q E hr h => ?_)
  · obtain ⟨a, M, n, rfl, _⟩ := h
    rfl
  · obtain ⟨a, M, n, rfl, ⟨s1, hA, hs⟩, ok, q⟩ := h
    refine ⟨_, (pss_cons (ps_par (i := 2) (j := 3) rfl scOpenedBy.nd rfl rfl (by decide) rfl rfl (pa_cons (pe_ix ix_tup (pv 0) pe_int (fun _ _ => rfl)) (pa_cons (pe_ix ix_tup (pv 0) pe_int (fun _ _ => rfl)) pa_nil)) (by rfl)) (pss_one (ps_ret (pe_op op_add (pe_op op_fdivN (pe_op op_sub (pv 1) (pv 3)) (pv 2)) pe_int)))), ?_⟩
    refine ⟨_, rfl, a, _, 0, _, rfl, rfl, hA, rfl, _, rfl, a, _, 1, _, rfl, rfl, hA, rfl, _, _, rfl, ?_⟩
    refine ⟨_, rfl, _, rfl, _, _, rfl, rfl, _, rfl, _, _, rfl, rfl, hoursDiv ok, _, _, rfl, rfl, ?_⟩
    have e : (n - M.first).fdiv M.hours = (n - M.first) / M.hours := Int.fdiv_eq_ediv_of_nonneg _ (by have := ok.hours; omega)
    rw [e]
    exact q
theorem okUrgentAt (z : Zf w K mg base h) : Cal P w K mg base 2 "urgent_at" ["almanac", "hour"] (spAlm1 K fun M n => shutN M (n + M.late)) := by
  have CShutBefore := okShutBefore (P := P) z
  refine cal_of (fdUrgentAt z) (gUrgentAt z) scUrgentAt (fun _ _ _ _ _ _ us hl => match us, hl with | [_, _], _ => rfl) (fun vs H Q E h => ?_) (fun A outer s H vs Q E hr h => ?_)
  · obtain ⟨a, M, n, rfl, _⟩ := h
    rfl
  · obtain ⟨a, M, n, rfl, hA0, ok, q⟩ := h
    obtain ⟨s1, hA, hs⟩ := id hA0
    refine ⟨_, (pss_cons (ps_set (i := 2) scUrgentAt.nd rfl (by first | exact Or.inl rfl | exact Or.inr rfl) (pe_ix ix_tup (pv 0) pe_int (fun _ _ => rfl))) (pss_one (ps_ret (pe_cal CShutBefore (hr.mono (by decide)) (by rfl) (pa_cons (pv 0) (pa_cons (pe_op op_add (pv 1) (pv 2)) pa_nil)))))), ?_⟩
    refine ⟨_, rfl, a, _, 4, _, rfl, rfl, hA, rfl, ?_⟩
    exact ⟨_, rfl, _, rfl, _, rfl, _, _, rfl, rfl, a, M, _, rfl, hA0, ok, q⟩
def spShownIn (K : PySem.W.Frag) (T : List Addr) : Sp := fun vs H Q _ => ∃ (a b : Addr) (M : Alm) (ws : List Int) (ps : List (Int × Int)), vs = [.ref a, .ref b] ∧ AlmAt K H a M ∧ M.Ok ∧ StoryAt K H b ws ps ∧ gapsOk M ws ∧ ws.length ≤ 60 ∧ Tb T H ∧
  ∀ p H', Go T H H' → H' p = some (.tup (vi (shownL M.hours ps ws))) → Q (.ref p) H'
theorem okShownIn (z : Zf w K mg base h) : Cal P w K mg base 1 "shown_in" ["almanac", "story"] (spShownIn K (tabs K)) := by
  refine cal_of (fdShownIn z) (gShownIn z) scShownIn (fun _ _ _ _ _ _ us hl => match us, hl with | [_, _], _ => rfl) (fun vs H Q E h => ?_) (fun A outer s H vs Q E hr h => ?_)
  · obtain ⟨a, b, M, ws, ps, rfl, _⟩ := h
    rfl
  · obtain ⟨a, b, M, ws, ps, rfl, ⟨s1, hA, hs⟩, ok, ⟨x, y, hB, hX, ⟨rs, hY, hlen, hP⟩⟩, gaps, few, tb, q⟩ := h
    refine ⟨_, (pss_cons (ps_set (i := 2) scShownIn.nd rfl (by first | exact Or.inl rfl | exact Or.inr rfl) (pe_ix ix_tup (pv 0) pe_int (fun _ _ => rfl))) (pss_cons (ps_asg (pv 1) (pg_tup rfl (pgs_cons (pg_name (i := 3) scShownIn.nd rfl (by first | exact Or.inl rfl | exact Or.inr rfl)) (pgs_cons (pg_name (i := 4) scShownIn.nd rfl (by first | exact Or.inl rfl | exact Or.inr rfl)) pgs_nil)))) (pss_cons (ps_set (i := 5) scShownIn.nd rfl (by first | exact Or.inl rfl | exact Or.inr rfl) (pe_lst pa_nil)) (pss_cons (ps_set (i := 6) scShownIn.nd rfl (by first | exact Or.inl rfl | exact Or.inr rfl) pe_int) (pss_cons (ps_set (i := 7) scShownIn.nd rfl (by first | exact Or.inl rfl | exact Or.inr rfl) pe_int) (pss_cons (ps_for PassesOwn.never rfl (pi_tup (pv 3)) (pg_name (i := 8) scShownIn.nd rfl (by first | exact Or.inl rfl | exact Or.inr rfl)) (pss_cons (ps_while PassesOwn.never (PW.pt (pw_and (pt_cmpR op_lt (pv 7) (pe_callB call_len_seq (by rfl) (m_len z) (by decide +kernel) (pa_cons (pv 4) pa_nil)) (nomark _)) (pw_and1 (pt_cmpR op_le (pe_ix ix_tup (pe_ix ix_tup (pv 4) (pv 7) (fun _ _ => rfl)) pe_int (fun _ _ => rfl)) (pv 8) (nomark _))))) (pss_cons (ps_aug (i := 6) scShownIn.nd rfl (by first | exact Or.inl rfl | exact Or.inr rfl) (pe_ix ix_tup (pe_ix ix_tup (pv 4) (pv 7) (fun _ _ => rfl)) pe_int (fun _ _ => rfl)) ip_add) (pss_one (ps_aug (i := 7) scShownIn.nd rfl (by first | exact Or.inl rfl | exact Or.inr rfl) pe_int ip_add)))) (pss_one (ps_expr (pe_bm PySem.F.plainAttrs_list PySem.F.slot_list_append PySem.F.type_list_append mt_append (pv 5) (pa_cons (pe_op op_modN (pe_op op_add (pv 8) (pv 6)) (pv 2)) pa_nil)))))) (pss_one (ps_ret (pe_callTy call_tuple_of (by rfl) (m_tuple z) (by decide +kernel) (pa_cons (pv 5) pa_nil)))))))))), ?_⟩
    refine ⟨_, rfl, a, _, 0, _, rfl, rfl, hA, rfl, ?_⟩
    refine ⟨_, rfl, b, _, rfl, hB, rfl, _, _, rfl, _, _, rfl, rfl, ?_⟩
    refine ⟨Nat.zero_le _, fun o no => ?_⟩
    have g0 : ∀ u, Go (tabs K) H (upd H o u) := fun u => Go.new tb no
    have hl : (vi ws).length = ws.length := List.length_map ..
    refine ⟨_, rfl, x, rfl, ⟨_, (g0 _).sqT hX⟩, for_tup (xs := vi ws) (fun i σ H' => H' = upd H o (.lst (vi ((shownL M.hours ps ws).take i))) ∧ ∃ (k : Nat) (e : Int) (e8 : Option V), σ = [some (.ref a), some (.ref b), some (.int M.hours), some (.ref x), some (.ref y), some (.ref o), some (.int e), some (.int (k : Nat)), e8] ∧
        e = ((ps.take k).map (·.2)).sum ∧ ∀ w, ws[i]? = some w → k ≤ stopAt ps w)
      ⟨rfl, 0, 0, none, rfl, rfl, fun _ _ => Nat.zero_le _⟩ (fun i σ H' _ p => by rw [p.1]; exact (g0 _).sqT hX) (fun i v σ H' hx p => ?_) (fun σ H' p => ?_)⟩
    · obtain ⟨rfl, k, e, e8, rfl, he, hk⟩ := p
      obtain ⟨wk, hw, rfl⟩ := vi_get hx
      have hk := hk wk hw
      have g1 := g0 (.lst (vi ((shownL M.hours ps ws).take i)))
      -- the settings up to this waking
      refine ⟨fun m σ' H' => H' = upd H o (.lst (vi ((shownL M.hours ps ws).take i))) ∧ ∃ (k : Nat) (e : Int), m + k = stopAt ps wk ∧ σ' = [some (.ref a), some (.ref b), some (.int M.hours), some (.ref x), some (.ref y), some (.ref o), some (.int e), some (.int (k : Nat)), some (.int wk)] ∧
        e = ((ps.take k).map (·.2)).sum, ⟨stopAt ps wk - k, rfl, k, e, by omega, rfl, he⟩, fun m σ' H' p => ?_⟩
      obtain ⟨rfl, k, e, hm, rfl, he⟩ := p
      have hrl : ((rs.map V.ref).length : Int) = (ps.length : Int) := by rw [List.length_map, hlen]
      refine ⟨_, rfl, _, rfl, y, rs.map V.ref, rfl, .inr (g1.sqT hY), _, _, rfl, rfl, _, rfl, ?_⟩
      by_cases hlt : k < stopAt ps wk
      · have h1 : k < ps.length := Nat.lt_of_lt_of_le hlt (stop_le ps wk)
        refine iteD (show ((k : Nat) : Int) < ((rs.map V.ref).length : Int) by omega) ?_
        have hp1 : ps[k]? = some ps[k] := List.getElem?_eq_getElem h1
        obtain ⟨r, hr1⟩ : ∃ r, rs[k]? = some r := ⟨rs[k]'(by omega), List.getElem?_eq_getElem (by omega)⟩
        have hR := g1.sqT (hP k r _ hr1 hp1)
        have hat : atI (rs.map V.ref) ((k : Nat) : Int) = some (.ref r) := atI_nat (by rw [List.getElem?_map, hr1]; rfl)
        have hst := (stop_step (w := wk) hp1).1 hlt
        generalize hpk : ps[k] = pk at hp1 hR hst
        refine ⟨_, rfl, _, rfl, y, _, _, _, rfl, rfl, g1.sqT hY, hat, r, _, 0, _, rfl, rfl, hR, rfl, _, rfl, _, _, rfl, rfl, _, rfl, ?_⟩
        refine iteD hst ?_
        refine ⟨_, fun σ' H' p => p, ?_⟩
        refine ⟨_, rfl, _, rfl, _, rfl, y, _, _, _, rfl, rfl, g1.sqT hY, hat, r, _, 1, _, rfl, rfl, hR, rfl, _, _, rfl, rfl, ?_⟩
        refine ⟨_, rfl, _, _, rfl, rfl, m - 1, by omega, rfl, k + 1, _, by omega, rfl, ?_⟩
        rw [take_sum hp1, he]
      · have hke : k = stopAt ps wk := by omega
        have hsl : (shownL M.hours ps ws)[i]? = some ((wk + errAt ps wk) % M.hours) := by
          unfold shownL
          rw [List.getElem?_map, hw]
          rfl
        have hee : e = errAt ps wk := by rw [he, hke]; rfl
        have hfm : (wk + errAt ps wk).fmod M.hours = (wk + errAt ps wk) % M.hours := Int.fmod_eq_emod_of_nonneg _ (by have := ok.hours; omega)
        have hil : i < ws.length := (List.getElem?_eq_some_iff.mp hw).1
        rcases Nat.lt_or_ge k ps.length with h1 | h1
        · refine iteD (show ((k : Nat) : Int) < ((rs.map V.ref).length : Int) by omega) ?_
          have hp1 : ps[k]? = some ps[k] := List.getElem?_eq_getElem h1
          obtain ⟨r, hr1⟩ : ∃ r, rs[k]? = some r := ⟨rs[k]'(by omega), List.getElem?_eq_getElem (by omega)⟩
          have hR := g1.sqT (hP k r _ hr1 hp1)
          have hat : atI (rs.map V.ref) ((k : Nat) : Int) = some (.ref r) := atI_nat (by rw [List.getElem?_map, hr1]; rfl)
          have hst := (stop_step (w := wk) hp1).2 hke
          refine ⟨_, rfl, _, rfl, y, _, _, _, rfl, rfl, g1.sqT hY, hat, r, _, 0, _, rfl, rfl, hR, rfl, _, rfl, _, _, rfl, rfl, _, rfl, ?_⟩
          refine iteDN hst ?_
          refine ⟨.ref o, rfl, .inl ⟨rfl, _, .inl (.inl upd_same)⟩, _, rfl, _, rfl, _, _, rfl, rfl, _, rfl, _, _, rfl, rfl, (hoursDiv ok).1, o, _, _, rfl, rfl, upd_same, ?_, ?_⟩
          · rw [List.length_map, List.length_take]
            exact Nat.lt_of_le_of_lt (Nat.min_le_left _ _) (small1000 (by omega))
          · refine ⟨?_, k, e, _, rfl, he, fun w' hw' => ?_⟩
            · rw [upd_upd, List.take_add_one, hsl, hee]
              show upd H o (.lst (vi (List.take i (shownL M.hours ps ws)) ++ [.int ((wk + errAt ps wk).fmod M.hours)])) = _
              rw [hfm, show vi (List.take i (shownL M.hours ps ws) ++ (some ((wk + errAt ps wk) % M.hours)).toList) = vi (List.take i (shownL M.hours ps ws)) ++ [.int ((wk + errAt ps wk) % M.hours)] from List.map_append ..]
            · have := gaps i wk w' hw hw'
              rw [hke]
              exact stop_mono (by have := ok.soon; omega) ps
        · refine iteDN (show ¬ ((k : Nat) : Int) < ((rs.map V.ref).length : Int) by omega) ?_
          refine iteF ?_
          refine ⟨.ref o, rfl, .inl ⟨rfl, _, .inl (.inl upd_same)⟩, _, rfl, _, rfl, _, _, rfl, rfl, _, rfl, _, _, rfl, rfl, (hoursDiv ok).1, o, _, _, rfl, rfl, upd_same, ?_, ?_⟩
          · rw [List.length_map, List.length_take]
            exact Nat.lt_of_le_of_lt (Nat.min_le_left _ _) (small1000 (by omega))
          · refine ⟨?_, k, e, _, rfl, he, fun w' hw' => ?_⟩
            · rw [upd_upd, List.take_add_one, hsl, hee]
              show upd H o (.lst (vi (List.take i (shownL M.hours ps ws)) ++ [.int ((wk + errAt ps wk).fmod M.hours)])) = _
              rw [hfm, show vi (List.take i (shownL M.hours ps ws) ++ (some ((wk + errAt ps wk) % M.hours)).toList) = vi (List.take i (shownL M.hours ps ws)) ++ [.int ((wk + errAt ps wk) % M.hours)] from List.map_append ..]
            · have := gaps i wk w' hw hw'
              rw [hke]
              exact stop_mono (by have := ok.soon; omega) ps
    · obtain ⟨rfl, k, e, e8, rfl, he, hk⟩ := p
      rw [hl, List.take_of_length_le (by unfold shownL; rw [List.length_map]; exact Nat.le_refl _)]
      refine ⟨_, rfl, o, _, rfl, .inl ⟨SqL.of upd_same, fun l nl => ?_⟩⟩
      exact q l _ ((g0 _).trans (Go.new (g0 _).t1 nl)) upd_same
end
end K01

namespace K01
open PySem PySem.Spec PyProof.Rows L2 WC
section
variable {P : Program} {w : World} {K : PySem.W.Frag} {mg : Str → Option Value} {base h : Heap}
def spReadings (K : PySem.W.Frag) (T : List Addr) : Sp := fun vs H Q _ => ∃ (a b : Addr) (M : Alm) (ws : List Int) (ps : List (Int × Int)), vs = [.ref a, .ref b] ∧ AlmAt K H a M ∧ M.Ok ∧ StoryAt K H b ws ps ∧ StoryOk M ws ps ∧ Tb T H ∧
  ∀ p H', Go T H H' → H' p = some (.tup (vi (shownL M.hours ps ws))) → Q (.ref p) H'
theorem okReadings (z : Zf w K mg base h) : Cal P w K mg base 7 "readings" ["almanac", "story"] (spReadings K (tabs K)) := by
  have CCheckAlmanac := okCheckAlmanac (P := P) z
  have CCheckStory := okCheckStory (P := P) z
  have CShownIn := okShownIn (P := P) z
  refine cal_of (fdReadings z) (gReadings z) scReadings (fun _ _ _ _ _ _ us hl => match us, hl with | [_, _], _ => rfl) (fun vs H Q E h => ?_) (fun A outer s H vs Q E hr h => ?_)
  · obtain ⟨a, b, M, ws, ps, rfl, _⟩ := h
    rfl
  · obtain ⟨a, b, M, ws, ps, rfl, hA, ok, hB, sok, tb, q⟩ := h
    refine ⟨_, (pss_cons (ps_expr (pe_cal CCheckAlmanac (hr.mono (by decide)) (by rfl) (pa_cons (pv 0) pa_nil))) (pss_cons (ps_expr (pe_cal CCheckStory (hr.mono (by decide)) (by rfl) (pa_cons (pv 0) (pa_cons (pv 1) pa_nil)))) (pss_one (ps_ret (pe_cal CShownIn (hr.mono (by decide)) (by rfl) (pa_cons (pv 0) (pa_cons (pv 1) pa_nil))))))), ?_⟩
    refine ⟨_, rfl, a, M, rfl, hA, ok, tb, fun H1 g1 => ?_⟩
    refine ⟨_, rfl, _, rfl, a, b, M, ws, ps, rfl, g1.alm hA, g1.story hB, sok, g1.t1, fun H2 g2 => ?_⟩
    have g3 := g1.trans g2
    exact ⟨_, rfl, _, rfl, a, b, M, ws, ps, rfl, g3.alm hA, ok, g3.story hB, sok.gaps, sok.few.2, g3.t1, fun p H' g4 e => q p H' (g3.trans g4) e⟩
def spHour1 (K : PySem.W.Frag) (T : List Addr) (f : Alm → Int → Int) : Sp := fun vs H Q _ => ∃ (a : Addr) (M : Alm) (n : Int), vs = [.ref a, .int n] ∧ AlmAt K H a M ∧ M.Ok ∧ (0 ≤ n ∧ n ≤ 1000000000) ∧ Tb T H ∧ ∀ H', Go T H H' → Q (.int (f M n)) H'
theorem okShut (z : Zf w K mg base h) : Cal P w K mg base 7 "shut" ["almanac", "hour"] (spHour1 K (tabs K) shutN) := by
  have CCheckAlmanac := okCheckAlmanac (P := P) z
  have CCheckHour := okCheckHour (P := P) z
  have CShutBefore := okShutBefore (P := P) z
  refine cal_of (fdShut z) (gShut z) scShut (fun _ _ _ _ _ _ us hl => match us, hl with | [_, _], _ => rfl) (fun vs H Q E h => ?_) (fun A outer s H vs Q E hr h => ?_)
  · obtain ⟨a, M, n, rfl, _⟩ := h
    rfl
  · obtain ⟨a, M, n, rfl, hA, ok, hn, tb, q⟩ := h
    refine ⟨_, (pss_cons (ps_expr (pe_cal CCheckAlmanac (hr.mono (by decide)) (by rfl) (pa_cons (pv 0) pa_nil))) (pss_cons (ps_expr (pe_cal CCheckHour (hr.mono (by decide)) (by rfl) (pa_cons (pv 1) pa_nil))) (pss_one (ps_ret (pe_cal CShutBefore (hr.mono (by decide)) (by rfl) (pa_cons (pv 0) (pa_cons (pv 1) pa_nil))))))), ?_⟩
    refine ⟨_, rfl, a, M, rfl, hA, ok, tb, fun H1 g1 => ?_⟩
    exact ⟨_, rfl, n, rfl, hn, _, rfl, _, rfl, a, M, n, rfl, g1.alm hA, ok, q _ g1⟩
theorem okOpened (z : Zf w K mg base h) : Cal P w K mg base 7 "opened" ["almanac", "hour"] (spHour1 K (tabs K) openN) := by
  have CCheckAlmanac := okCheckAlmanac (P := P) z
  have CCheckHour := okCheckHour (P := P) z
  have COpenedBy := okOpenedBy (P := P) z
  refine cal_of (fdOpened z) (gOpened z) scOpened (fun _ _ _ _ _ _ us hl => match us, hl with | [_, _], _ => rfl) (fun vs H Q E h => ?_) (fun A outer s H vs Q E hr h => ?_)
  · obtain ⟨a, M, n, rfl, _⟩ := h
    rfl
  · obtain ⟨a, M, n, rfl, hA, ok, hn, tb, q⟩ := h
    refine ⟨_, (pss_cons (ps_expr (pe_cal CCheckAlmanac (hr.mono (by decide)) (by rfl) (pa_cons (pv 0) pa_nil))) (pss_cons (ps_expr (pe_cal CCheckHour (hr.mono (by decide)) (by rfl) (pa_cons (pv 1) pa_nil))) (pss_one (ps_ret (pe_cal COpenedBy (hr.mono (by decide)) (by rfl) (pa_cons (pv 0) (pa_cons (pv 1) pa_nil))))))), ?_⟩
    refine ⟨_, rfl, a, M, rfl, hA, ok, tb, fun H1 g1 => ?_⟩
    exact ⟨_, rfl, n, rfl, hn, _, rfl, _, rfl, a, M, n, rfl, g1.alm hA, ok, q _ g1⟩
theorem okUrgent (z : Zf w K mg base h) : Cal P w K mg base 7 "urgent" ["almanac", "hour"] (spHour1 K (tabs K) fun M n => shutN M (n + M.late)) := by
  have CCheckAlmanac := okCheckAlmanac (P := P) z
  have CCheckHour := okCheckHour (P := P) z
  have CUrgentAt := okUrgentAt (P := P) z
  refine cal_of (fdUrgent z) (gUrgent z) scUrgent (fun _ _ _ _ _ _ us hl => match us, hl with | [_, _], _ => rfl) (fun vs H Q E h => ?_) (fun A outer s H vs Q E hr h => ?_)
  · obtain ⟨a, M, n, rfl, _⟩ := h
    rfl
  · obtain ⟨a, M, n, rfl, hA, ok, hn, tb, q⟩ := h
    refine ⟨_, (pss_cons (ps_expr (pe_cal CCheckAlmanac (hr.mono (by decide)) (by rfl) (pa_cons (pv 0) pa_nil))) (pss_cons (ps_expr (pe_cal CCheckHour (hr.mono (by decide)) (by rfl) (pa_cons (pv 1) pa_nil))) (pss_one (ps_ret (pe_cal CUrgentAt (hr.mono (by decide)) (by rfl) (pa_cons (pv 0) (pa_cons (pv 1) pa_nil))))))), ?_⟩
    refine ⟨_, rfl, a, M, rfl, hA, ok, tb, fun H1 g1 => ?_⟩
    exact ⟨_, rfl, n, rfl, hn, _, rfl, _, rfl, a, M, n, rfl, g1.alm hA, ok, q _ g1⟩
end
end K01

namespace K01
open PySem PySem.Spec PyProof.Rows L2 WC
section
variable {P : Program} {w : World} {K : PySem.W.Frag} {mg : Str → Option Value} {base h : Heap}
/-! ### the law's own defs -/
def spTaken (K : PySem.W.Frag) (T : List Addr) : Sp := fun vs H Q _ => ∃ (r sc : Addr) (ns : List Int) (m : Int), vs = [.ref r, .int m] ∧ (1 ≤ m ∧ m < 1000000) ∧ RowAt K H r sc ns ∧ Tb T H ∧
  ∀ v H', 0 ≤ v → v < m → RowAt K H' r sc ns → Gw T r H H' → (∀ b, b ≠ r → H' b = H b) → Q (.int v) H'
theorem okLawTaken (z : Zf w K mg base h) : Cal P w K mg base 1 "_law_taken" ["row", "many"] (spTaken K (tabs K)) := by
  refine cal_of (fdLawTaken z) (gLawTaken z) scLawTaken (fun _ _ _ _ _ _ us hl => match us, hl with | [_, _], _ => rfl) (fun vs H Q E h => ?_) (fun A outer s H vs Q E hr h => ?_)
  · obtain ⟨r, sc, ns, m, rfl, _⟩ := h
    rfl
  · obtain ⟨r, sc, ns, m, rfl, hm, R, tb, q⟩ := h
    refine ⟨_, (pss_cons (ps_if (pt_cmpR op_gt (pe_ix ix_list (pv 0) pe_int (fun _ _ => rfl)) pe_int (nomark _)) (pss_cons (ps_set (i := 2) scLawTaken.nd rfl (by first | exact Or.inl rfl | exact Or.inr rfl) (pe_op op_modN (pe_callTy call_int1 (by rfl) (m_int z) (by decide +kernel) (pa_cons (pe_ix ix_list (pv 0) pe_int (fun _ _ => rfl)) pa_nil)) (pv 1))) (pss_cons (ps_asg (pe_op op_fdivN (pe_ix ix_list (pv 0) pe_int (fun _ _ => rfl)) (pv 1)) (pg_sub (pv 0) pe_int set_list)) (pss_one (ps_ret (pv 2))))) pss_nil) (pss_cons (ps_asg (pe_op op_add (pe_ix ix_list (pv 0) pe_int (fun _ _ => rfl)) pe_int) (pg_sub (pv 0) pe_int set_list)) (pss_cons (ps_if (pt_cmpR op_gt (pe_ix ix_list (pv 0) pe_int (fun _ _ => rfl)) (pe_callB call_len_seq (by rfl) (m_len z) (by decide +kernel) (pa_cons (pe_ix ix_list (pv 0) pe_int (fun _ _ => rfl)) pa_nil)) (nomark _)) (pss_cons (ps_asg (pe_op op_modN (pe_callTy call_int1 (by rfl) (m_int z) (by decide +kernel) (pa_cons (pe_op op_add (pe_op op_mul (pe_ix ix_list (pv 0) pe_int (fun _ _ => rfl)) pe_int) pe_int) pa_nil)) pe_int) (pg_sub (pv 0) pe_int set_list)) (pss_one (ps_ret (pe_op op_modN (pe_callTy call_int1 (by rfl) (m_int z) (by decide +kernel) (pa_cons (pe_op op_fdivN (pe_ix ix_list (pv 0) pe_int (fun _ _ => rfl)) pe_int) pa_nil)) (pv 1))))) pss_nil) (pss_cons (ps_set (i := 3) scLawTaken.nd rfl (by first | exact Or.inl rfl | exact Or.inr rfl) (pe_ix ix_list (pe_ix ix_list (pv 0) pe_int (fun _ _ => rfl)) (pe_op op_sub (pe_ix ix_list (pv 0) pe_int (fun _ _ => rfl)) pe_int) (fun _ _ => rfl))) (pss_cons (ps_asg (pe_op op_modN (pe_callTy call_int1 (by rfl) (m_int z) (by decide +kernel) (pa_cons (pe_op op_add (pe_op op_add (pe_op op_mul (pe_ix ix_list (pv 0) pe_int (fun _ _ => rfl)) pe_int) (pv 3)) pe_int) pa_nil)) pe_int) (pg_sub (pv 0) pe_int set_list)) (pss_cons (ps_if (pt_cmpR op_ge (pv 3) (pe_op op_pow pe_int pe_int) (nomark _)) (pss_one (ps_asg (pe_op op_fdivN (pv 3) (pv 1)) (pg_sub (pv 0) pe_int set_list))) pss_nil) (pss_one (ps_ret (pe_op op_modN (pe_callTy call_int1 (by rfl) (m_int z) (by decide +kernel) (pa_cons (pv 3) pa_nil)) (pv 1)))))))))), ?_⟩
    obtain ⟨i, sd, c, hrow, hi, hs, hc⟩ := R.at_
    have hd : m ≠ 0 ∧ m.natAbs < 1073741824 := by omega
    have hm0 : (0 : Int) < m := by omega
    have fm : ∀ x : Int, x.fmod m = x % m := fun x => Int.fmod_eq_emod_of_nonneg x (by omega)
    have fd : ∀ x : Int, x.fdiv m = x / m := fun x => Int.fdiv_eq_ediv_of_nonneg x (by omega)
    refine ⟨_, rfl, r, _, 3, _, rfl, rfl, SqL.of hrow, rfl, _, _, rfl, rfl, _, rfl, ite2 (fun h3 => ?_) (fun h3 => ?_)⟩
    · have h3 : 0 < c := of_decide_eq_true h3
      refine ⟨_, rfl, r, _, 3, _, rfl, rfl, SqL.of hrow, rfl, .inl ⟨_, rfl, ?_⟩⟩
      refine ⟨_, rfl, _, _, rfl, rfl, hd.1, ?_⟩
      refine ⟨_, rfl, r, _, 3, _, rfl, rfl, SqL.of hrow, rfl, _, rfl, _, _, rfl, rfl, hd, ?_⟩
      refine ⟨_, rfl, r, _, 3, 3, rfl, rfl, hrow, rfl, ?_⟩
      refine ⟨_, rfl, ?_⟩
      show Q (.int (c.fmod m)) (upd H r (rowO sc i sd (c.fdiv m)))
      rw [fm, fd]
      exact q _ _ (Int.emod_nonneg _ (by omega)) (Int.emod_lt_of_pos _ hm0) (R.set tb ⟨hi, hs, Int.ediv_nonneg hc (by omega)⟩) (Gw.row tb R.lst) (fun b hb => upd_ne hb)
    · have h3 : ¬ 0 < c := fun z => h3 (decide_eq_true z)
      refine ⟨_, rfl, r, _, 1, _, rfl, rfl, SqL.of hrow, rfl, _, _, rfl, rfl, _, rfl, r, _, 1, 1, rfl, rfl, hrow, rfl, ?_⟩
      have R1 : RowAt K (upd H r (rowO sc (i + 1) sd c)) r sc ns := R.set tb ⟨by omega, hs, hc⟩
      have hl : (vi ns).length = ns.length := List.length_map ..
      refine ⟨_, rfl, r, _, 1, _, rfl, rfl, SqL.of upd_same, rfl, _, rfl, r, _, 0, _, rfl, rfl, SqL.of upd_same, rfl, sc, vi ns, rfl, .inl R1.scr, _, _, rfl, rfl, _, rfl, ite2 (fun h4 => ?_) (fun h4 => ?_)⟩
      · refine ⟨_, rfl, r, _, 2, _, rfl, rfl, SqL.of upd_same, rfl, _, _, rfl, rfl, .inr (by decide), _, _, rfl, rfl, .inl ⟨_, rfl, ?_⟩⟩
        refine ⟨_, _, rfl, rfl, show (2147483647 : Int) ≠ 0 by decide, ?_⟩
        refine ⟨_, rfl, r, _, 2, 2, rfl, rfl, upd_same, rfl, ?_⟩
        refine ⟨_, rfl, r, _, 2, _, rfl, rfl, SqL.of upd_same, rfl, _, _, rfl, rfl, show (7 : Int) ≠ 0 ∧ (7 : Int).natAbs < 1073741824 by decide, .inl ⟨_, rfl, ?_⟩⟩
        refine ⟨_, rfl, _, _, rfl, rfl, hd.1, ?_⟩
        show Q (.int (Int.fmod _ m)) (upd (upd H r _) r (rowO sc (i + 1) _ c))
        rw [fm, upd_upd]
        refine q _ _ (Int.emod_nonneg _ (by omega)) (Int.emod_lt_of_pos _ hm0) (R.set tb ⟨by omega, ?_, hc⟩) (Gw.row tb R.lst) (fun b hb => upd_ne hb)
        rw [Int.fmod_eq_emod_of_nonneg _ (by decide)]
        exact Int.emod_nonneg _ (by decide)
      · have h4 : ¬ (((vi ns).length : Nat) : Int) < i + 1 := fun z => h4 (decide_eq_true z)
        rw [hl] at h4
        have hin : i.toNat < ns.length := by omega
        have hcell : ns[i.toNat]? = some ns[i.toNat] := List.getElem?_eq_getElem hin
        generalize ns[i.toNat] = cell at hcell
        have hat : atI (vi ns) (i + 1 - 1) = some (.int cell) := by
          rw [show i + 1 - 1 = ((i.toNat : Nat) : Int) by omega]
          exact atI_nat (vi_at hcell)
        refine ⟨_, rfl, r, _, 0, _, rfl, rfl, SqL.of upd_same, rfl, _, rfl, r, _, 1, _, rfl, rfl, SqL.of upd_same, rfl, _, _, rfl, rfl, sc, _, _, _, rfl, rfl, R1.scr, hat, ?_⟩
        refine ⟨_, rfl, r, _, 2, _, rfl, rfl, SqL.of upd_same, rfl, _, _, rfl, rfl, .inr (by decide), _, rfl, _, _, rfl, rfl, _, _, rfl, rfl, .inl ⟨_, rfl, ?_⟩⟩
        refine ⟨_, _, rfl, rfl, show (2147483647 : Int) ≠ 0 by decide, ?_⟩
        refine ⟨_, rfl, r, _, 2, 2, rfl, rfl, upd_same, rfl, ?_⟩
        refine ⟨_, rfl, _, _, rfl, rfl, show (0 : Int) ≤ 18 ∧ (18 : Int) ≤ 1000000 ∧ (10 : Int).natAbs < 2 ^ 64 by decide, _, _, rfl, rfl, _, rfl, ite2 (fun h5 => ?_) (fun h5 => ?_)⟩
        · have h5 : (10 : Int) ^ (18 : Int).toNat ≤ cell := of_decide_eq_true h5
          have h6 : 0 ≤ cell := Int.le_trans (by decide) h5
          refine ⟨_, rfl, _, rfl, _, _, rfl, rfl, hd, _, rfl, r, _, 3, 3, rfl, rfl, upd_same, rfl, ?_⟩
          refine ⟨_, rfl, .inl ⟨_, rfl, ?_⟩⟩
          refine ⟨_, rfl, _, _, rfl, rfl, hd.1, ?_⟩
          show Q (.int (Int.fmod _ m)) (upd (upd (upd H r _) r _) r (rowO sc (i + 1) _ (cell.fdiv m)))
          rw [fm, fd, upd_upd, upd_upd]
          refine q _ _ (Int.emod_nonneg _ (by omega)) (Int.emod_lt_of_pos _ hm0) (R.set tb ⟨by omega, ?_, Int.ediv_nonneg h6 (by omega)⟩) (Gw.row tb R.lst) (fun b hb => upd_ne hb)
          rw [Int.fmod_eq_emod_of_nonneg _ (by decide)]
          exact Int.emod_nonneg _ (by decide)
        · refine ⟨_, rfl, .inl ⟨_, rfl, ?_⟩⟩
          refine ⟨_, rfl, _, _, rfl, rfl, hd.1, ?_⟩
          show Q (.int (Int.fmod _ m)) (upd (upd H r _) r (rowO sc (i + 1) _ c))
          rw [fm, upd_upd]
          refine q _ _ (Int.emod_nonneg _ (by omega)) (Int.emod_lt_of_pos _ hm0) (R.set tb ⟨by omega, ?_, hc⟩) (Gw.row tb R.lst) (fun b hb => upd_ne hb)
          rw [Int.fmod_eq_emod_of_nonneg _ (by decide)]
          exact Int.emod_nonneg _ (by decide)
end
end K01

namespace K01
open PySem PySem.Spec PyProof.Rows L2 WC
section
variable {P : Program} {w : World} {K : PySem.W.Frag} {mg : Str → Option Value} {base h : Heap}
/-- the almanacs that the law draws -/
structure Drawn (M : Alm) : Prop where
  ok : M.Ok
  hours : M.hours ≤ 7
  late : M.late ≤ 5
  rest : M.rest ≤ 6
  few : M.sets.length ≤ 2
def spAlmanac (K : PySem.W.Frag) (T : List Addr) : Sp := fun vs H Q _ => ∃ (r sc : Addr) (ns : List Int), vs = [.ref r] ∧ RowAt K H r sc ns ∧ Tb T H ∧
  ∀ a M H', Drawn M → AlmAt K H' a M → RowAt K H' r sc ns → Gw T r H H' → Q (.ref a) H'
theorem asc_snoc {ns : List Int} {n : Int} (h : Asc ns) (hb : ∀ x ∈ ns, x < n) : Asc (ns ++ [n]) := by
  intro j x y h1 h2
  by_cases hj : j + 1 < ns.length
  · rw [List.getElem?_append_left (by omega)] at h1
    rw [List.getElem?_append_left hj] at h2
    exact h j x y h1 h2
  · have hj2 : j + 1 < (ns ++ [n]).length := (List.getElem?_eq_some_iff.mp h2).1
    rw [List.length_append, List.length_singleton] at hj2
    have e : j + 1 = ns.length := by omega
    rw [e, List.getElem?_append_right (Nat.le_refl _), Nat.sub_self] at h2
    rw [List.getElem?_append_left (by omega)] at h1
    have e2 : n = y := by simpa using h2
    rw [← e2]
    exact hb x (List.mem_of_getElem? h1)
theorem asc_take {ns : List Int} (h : Asc ns) (n : Nat) : Asc (ns.take n) := by
  intro j x y h1 h2
  have e1 : j < n := by
    have := (List.getElem?_eq_some_iff.mp h1).1
    rw [List.length_take] at this
    omega
  have e2 : j + 1 < n := by
    have := (List.getElem?_eq_some_iff.mp h2).1
    rw [List.length_take] at this
    omega
  rw [List.getElem?_take_of_lt e1] at h1
  rw [List.getElem?_take_of_lt e2] at h2
  exact h j x y h1 h2
theorem drawn_mk {v1 v2 v3 v4 v5 v6 : Int} {acc : List Int} (h1 : 0 ≤ v1 ∧ v1 < 6) (h2 : 0 ≤ v2 ∧ v2 < 2 + v1) (h3 : 0 ≤ v3 ∧ v3 < 2 + v1) (h4 : 0 ≤ v4 ∧ v4 < 3) (h5 : 0 ≤ v5 ∧ v5 < 3) (h6 : 0 ≤ v6 ∧ v6 < 6) (ha : Asc acc)
    (hall : ∀ x ∈ acc, 1 - (2 + v1) ≤ x ∧ x < 2 + v1 ∧ x ≠ 0) : Drawn ⟨2 + v1, v2, v2 + v3, 1 + v4, 1 + v4 + v5, acc.take 2, 1 + v6⟩ := by
  have hl : (acc.take 2).length ≤ 2 := by rw [List.length_take]; omega
  refine ⟨⟨?_, ?_, ?_, ?_, ?_, ?_, fun x hx => ?_, asc_take ha 2, ?_⟩, ?_, ?_, ?_, ?_⟩ <;> dsimp only <;> try omega
  have hx := hall x (List.mem_of_mem_take hx)
  omega
theorem okLawAlmanac (z : Zf w K mg base h) : Cal P w K mg base 2 "_law_almanac" ["row"] (spAlmanac K (tabs K)) := by
  have CLawTaken := okLawTaken (P := P) z
  refine cal_of (fdLawAlmanac z) (gLawAlmanac z) scLawAlmanac (fun _ _ _ _ _ _ us hl => match us, hl with | [_], _ => rfl) (fun vs H Q E h => ?_) (fun A outer s H vs Q E hr h => ?_)
  · obtain ⟨r, sc, ns, rfl, _⟩ := h
    rfl
  · obtain ⟨r, sc, ns, rfl, R, tb, q⟩ := h
    refine ⟨_, (pss_cons (ps_set (i := 1) scLawAlmanac.nd rfl (by first | exact Or.inl rfl | exact Or.inr rfl) (pe_op op_add pe_int (pe_cal CLawTaken (hr.mono (by decide)) (by rfl) (pa_cons (pv 0) (pa_cons pe_int pa_nil))))) (pss_cons (ps_set (i := 2) scLawAlmanac.nd rfl (by first | exact Or.inl rfl | exact Or.inr rfl) (pe_cal CLawTaken (hr.mono (by decide)) (by rfl) (pa_cons (pv 0) (pa_cons (pv 1) pa_nil)))) (pss_cons (ps_set (i := 3) scLawAlmanac.nd rfl (by first | exact Or.inl rfl | exact Or.inr rfl) (pe_op op_add (pv 2) (pe_cal CLawTaken (hr.mono (by decide)) (by rfl) (pa_cons (pv 0) (pa_cons (pv 1) pa_nil))))) (pss_cons (ps_set (i := 4) scLawAlmanac.nd rfl (by first | exact Or.inl rfl | exact Or.inr rfl) (pe_op op_add pe_int (pe_cal CLawTaken (hr.mono (by decide)) (by rfl) (pa_cons (pv 0) (pa_cons pe_int pa_nil))))) (pss_cons (ps_set (i := 5) scLawAlmanac.nd rfl (by first | exact Or.inl rfl | exact Or.inr rfl) (pe_op op_add (pv 4) (pe_cal CLawTaken (hr.mono (by decide)) (by rfl) (pa_cons (pv 0) (pa_cons pe_int pa_nil))))) (pss_cons (ps_setLc (i := 6) (own := [("one", 7)]) rfl scLawAlmanac.nd rfl rfl (sw_true rfl rfl rfl (by decide +kernel)) (pi_range2 (by rfl) (m_range z) (pa_cons (pe_op op_sub pe_int (pv 1)) (pa_cons (pv 1) pa_nil))) (blkOk_by (N := ["row", "hours", "first", "last", "soon", "late", "some", "one"]) (sc := defScope sLawAlmanac) (by decide +kernel)) (fun _ _ _ _ _ => pg_name (i := 7) scLawAlmanac.nd rfl (by first | exact Or.inl rfl | exact Or.inr rfl)) (fun _ _ _ _ _ => pts_one (PW.pt (pw_and (pt_cmpR op_ne (pv 7) pe_int (nomark _)) (pw_and1 (pt_cmpR op_lt (pe_cal CLawTaken (hr.mono (by decide)) (by rfl) (pa_cons (pv 0) (pa_cons (pe_op op_mul pe_int (pv 1)) pa_nil))) pe_int (nomark _)))))) (fun _ _ _ _ _ => (pv 7))) (pss_one (ps_ret (pe_tup (pa_cons (pv 1) (pa_cons (pv 2) (pa_cons (pv 3) (pa_cons (pv 4) (pa_cons (pv 5) (pa_cons (pe_callTy call_tuple_of (by rfl) (m_tuple z) (by decide +kernel) (pa_cons (pe_slice sl_list (pv 6) po_none (po_some pe_int)) pa_nil)) (pa_cons (pe_op op_add pe_int (pe_cal CLawTaken (hr.mono (by decide)) (by rfl) (pa_cons (pv 0) (pa_cons pe_int pa_nil)))) pa_nil)))))))))))))))), ?_⟩
    refine ⟨_, rfl, r, sc, ns, 6, rfl, by decide, R, tb, fun v1 H1 p1 b1 R1 g1 _ => ⟨_, _, rfl, rfl, ?_⟩⟩
    refine ⟨_, rfl, _, rfl, r, sc, ns, _, rfl, by omega, R1, g1.t1, fun v2 H2 p2 b2 R2 g2 _ => ?_⟩
    refine ⟨_, rfl, _, rfl, _, rfl, r, sc, ns, _, rfl, by omega, R2, g2.t1, fun v3 H3 p3 b3 R3 g3 _ => ⟨_, _, rfl, rfl, ?_⟩⟩
    refine ⟨_, rfl, r, sc, ns, 3, rfl, by decide, R3, g3.t1, fun v4 H4 p4 b4 R4 g4 _ => ⟨_, _, rfl, rfl, ?_⟩⟩
    refine ⟨_, rfl, _, rfl, r, sc, ns, 3, rfl, by decide, R4, g4.t1, fun v5 H5 p5 b5 R5 g5 _ => ⟨_, _, rfl, rfl, ?_⟩⟩
    have g15 := g1.trans (g2.trans (g3.trans (g4.trans g5)))
    -- the settings
    refine ⟨_, rfl, _, _, rfl, rfl, _, rfl, 1 - (2 + v1), 2 + v1, rfl, ⟨by omega, by omega, by omega, by omega⟩, fun D nD => ?_⟩
    have nr : D ≠ r := fun e => by
      obtain ⟨xs, e1⟩ := R5.lst
      rw [e, e1] at nD
      cases nD
    refine lc_range (lo := 1 - (2 + v1)) (fun i H' => ∃ acc : List Int, H' D = some (.lst (vi acc)) ∧ acc.length ≤ i ∧ Asc acc ∧ (∀ x ∈ acc, 1 - (2 + v1) ≤ x ∧ x < 1 - (2 + v1) + i ∧ x ≠ 0) ∧ RowAt K H' r sc ns ∧ Gw (tabs K) r H5 H')
      ⟨[], upd_same, Nat.zero_le _, fun j x y h1 => by simp at h1, fun x hx => by simp at hx, R5.new g5.t1 nD, Gw.new g5.t1 R5.lst nD⟩ (fun i H' hi p => ?_) (fun H' p => ?_)
    · obtain ⟨acc, hD, hla, hasc, hall, R6, g6⟩ := p
      refine ⟨rfl, ?_⟩
      refine ⟨_, rfl, rfl, _, rfl, ?_⟩
      have up : ∀ {H'' : Hp}, (∃ acc : List Int, H'' D = some (.lst (vi acc)) ∧ acc.length ≤ i ∧ Asc acc ∧ (∀ x ∈ acc, 1 - (2 + v1) ≤ x ∧ x < 1 - (2 + v1) + i ∧ x ≠ 0) ∧ RowAt K H'' r sc ns ∧ Gw (tabs K) r H5 H'') →
          ∃ acc : List Int, H'' D = some (.lst (vi acc)) ∧ acc.length ≤ i + 1 ∧ Asc acc ∧ (∀ x ∈ acc, 1 - (2 + v1) ≤ x ∧ x < 1 - (2 + v1) + ((i + 1 : Nat) : Int) ∧ x ≠ 0) ∧ RowAt K H'' r sc ns ∧ Gw (tabs K) r H5 H'' := by
        rintro H'' ⟨acc, a1, a2, a3, a4, a5, a6⟩
        exact ⟨acc, a1, by omega, a3, fun x hx => ⟨(a4 x hx).1, by have := (a4 x hx).2.1; omega, (a4 x hx).2.2⟩, a5, a6⟩
      by_cases h0 : V.int (1 - (2 + v1) + (i : Int)) = V.int 0
      · refine iteNS h0 (iteF ?_)
        exact up ⟨acc, hD, hla, hasc, hall, R6, g6⟩
      · refine iteNN h0 ?_
        refine ⟨_, rfl, _, rfl, _, _, rfl, rfl, .inl (by decide), r, sc, ns, _, rfl, by omega, R6, g6.t1, fun v H7 p7 b7 R7 g7 same => ⟨_, _, rfl, rfl, _, rfl, ite2 (fun h1 => ?_) (fun h1 => ?_)⟩⟩
        · have hD7 : H7 D = some (.lst (vi acc)) := (same D nr).trans hD
          have g67 := g6.trans g7
          refine ⟨_, rfl, vi acc, hD7, ?_, acc ++ [1 - (2 + v1) + (i : Int)], ?_, ?_, ?_, ?_, ?_, ?_⟩
          · rw [List.length_map]
            exact small1000 (by omega)
          · rw [upd_same, show vi (acc ++ [1 - (2 + v1) + (i : Int)]) = vi acc ++ [.int (1 - (2 + v1) + (i : Int))] from List.map_append ..]
          · rw [List.length_append, List.length_singleton]
            omega
          · exact asc_snoc hasc fun x hx => (hall x hx).2.1
          · intro x hx
            rcases List.mem_append.mp hx with hx | hx
            · exact ⟨(hall x hx).1, by have := (hall x hx).2.1; omega, (hall x hx).2.2⟩
            · rw [List.mem_singleton.mp hx]
              exact ⟨by omega, by omega, fun z => h0 (by rw [z])⟩
          · exact R5.own nD R7 (g67.own nD hD7)
          · exact g67.own nD hD7
        · exact up ⟨acc, (same D nr).trans hD, hla, hasc, hall, R7, g6.trans g7⟩
    · obtain ⟨acc, hD, hla, hasc, hall, R6, g6⟩ := p
      refine ⟨_, rfl, _, rfl, _, rfl, _, rfl, _, rfl, ?_⟩
      refine ⟨.ref D, rfl, 2, rfl, D, _, rfl, SqL.of hD, fun p np => ⟨p, _, rfl, .inl ⟨SqL.of upd_same, fun l nl => ?_⟩⟩⟩
      have e1 : cutV (vi acc) none (some 2) = vi (acc.take 2) := by
        unfold cutV
        rw [HT.sIx_none, show HT.sIx (vi acc).length (vi acc).length (some 2) = min 2 (vi acc).length from HT.sIx_nat _ _ 2, List.drop_zero, Nat.sub_zero, show vi (acc.take 2) = (vi acc).take 2 from List.map_take ..]
        rcases Nat.le_total 2 (vi acc).length with z1 | z1
        · rw [Nat.min_eq_left z1]
        · rw [Nat.min_eq_right z1, List.take_of_length_le (Nat.le_refl _), List.take_of_length_le z1]
      rw [e1] at nl ⊢
      have c1 : Go (tabs K) H' (upd H' p (.lst (vi (acc.take 2)))) := Go.new g6.t1 np
      have c2 := c1.trans (Go.new (o := .tup (vi (acc.take 2))) c1.t1 nl)
      refine ⟨_, rfl, r, sc, ns, 6, rfl, by decide, R6.go c2, c2.t1, fun v6 H8 p6 b6 R8 g8 _ => ⟨_, _, rfl, rfl, (by show 7 ≤ sizeLine; decide), fun a na => ?_⟩⟩
      have g9 : Gw (tabs K) r H H8 := g15.trans (g6.trans ((Gw.of c2 R6.lst).trans g8))
      have hset : SqT K H8 l (vi (acc.take 2)) := g8.sqT (SqT.of upd_same)
      have hA := Go.new (o := .tup [.int (2 + v1), .int v2, .int (v2 + v3), .int (1 + v4), .int (1 + v4 + v5), .ref l, .int (1 + v6)]) g8.t1 na
      exact q a ⟨2 + v1, v2, v2 + v3, 1 + v4, 1 + v4 + v5, acc.take 2, 1 + v6⟩ _ (drawn_mk ⟨p1, b1⟩ ⟨p2, b2⟩ ⟨p3, b3⟩ ⟨p4, b4⟩ ⟨p5, b5⟩ ⟨p6, b6⟩ hasc fun x hx => by have := hall x hx; omega) ⟨l, SqT.of upd_same, hA.sqT hset⟩ (R8.go hA) (g9.trans (Gw.of hA R8.lst))
end
end K01

namespace K01
open PySem PySem.Spec PyProof.Rows L2 WC
section
variable {P : Program} {w : World} {K : PySem.W.Frag} {mg : Str → Option Value} {base h : Heap}
def spPick (K : PySem.W.Frag) (T : List Addr) : Sp := fun vs H Q _ => ∃ (r sc t : Addr) (ns : List Int) (xs : List V), vs = [.ref r, .ref t] ∧ SqL K H t xs ∧ t ≠ r ∧ (1 ≤ xs.length ∧ xs.length < 1000000) ∧ RowAt K H r sc ns ∧ Tb T H ∧
  ∀ x H', x ∈ xs → RowAt K H' r sc ns → Gw T r H H' → Q x H'
theorem okLawPick (z : Zf w K mg base h) : Cal P w K mg base 2 "_law_pick" ["row", "things"] (spPick K (tabs K)) := by
  have CLawTaken := okLawTaken (P := P) z
  refine cal_of (fdLawPick z) (gLawPick z) scLawPick (fun _ _ _ _ _ _ us hl => match us, hl with | [_, _], _ => rfl) (fun vs H Q E h => ?_) (fun A outer s H vs Q E hr h => ?_)
  · obtain ⟨r, sc, t, ns, xs, rfl, _⟩ := h
    rfl
  · obtain ⟨r, sc, t, ns, xs, rfl, hT, ne, hl, R, tb, q⟩ := h
    refine ⟨_, (pss_one (ps_ret (pe_ix ix_list (pv 1) (pe_cal CLawTaken (hr.mono (by decide)) (by rfl) (pa_cons (pv 0) (pa_cons (pe_callB call_len_seq (by rfl) (m_len z) (by decide +kernel) (pa_cons (pv 1) pa_nil)) pa_nil))) (fun _ _ => rfl)))), ?_⟩
    refine ⟨_, rfl, _, rfl, _, rfl, t, xs, rfl, .inl hT, r, sc, ns, _, rfl, by omega, R, tb, fun v H1 p1 b1 R1 g1 _ => ?_⟩
    have hj : v.toNat < xs.length := by omega
    refine ⟨t, xs, v, xs[v.toNat], rfl, rfl, g1.sqL hT (fun _ => ne), ?_, q _ _ (List.getElem_mem hj) R1 g1⟩
    have hat := atI_nat (List.getElem?_eq_getElem hj)
    rw [show ((v.toNat : Nat) : Int) = v by omega] at hat
    exact hat
/-- a story as far as it has been drawn -/
structure Grown (M : Alm) (hour : Int) (ws : List Int) (ps : List (Int × Int)) : Prop where
  start : ws[0]? = some 0
  gaps : gapsOk M ws
  sets : setsOk M hour 1 ps = true
  few : (ps.length : Int) ≤ hour
def spStory (K : PySem.W.Frag) (T : List Addr) : Sp := fun vs H Q _ => ∃ (r sc a : Addr) (ns : List Int) (M : Alm) (m : Int), vs = [.ref r, .ref a, .int m] ∧ AlmAt K H a M ∧ Drawn M ∧ (1 ≤ m ∧ m ≤ 60) ∧ RowAt K H r sc ns ∧ Tb T H ∧
  ∀ p ws ps H', StoryAt K H' p ws ps → StoryOk M ws ps → ws.length ≤ m → RowAt K H' r sc ns → Gw T r H H' → Q (.ref p) H'
theorem okLawStory (z : Zf w K mg base h) : Cal P w K mg base 3 "_law_story" ["row", "almanac", "many"] (spStory K (tabs K)) := by
  have CLawTaken := okLawTaken (P := P) z
  have CLawPick := okLawPick (P := P) z
  refine cal_of (fdLawStory z) (gLawStory z) scLawStory (fun _ _ _ _ _ _ us hl => match us, hl with | [_, _, _], _ => rfl) (fun vs H Q E h => ?_) (fun A outer s H vs Q E hr h => ?_)
  · obtain ⟨r, sc, a, ns, M, m, rfl, _⟩ := h
    rfl
  · obtain ⟨r, sc, a, ns, M, m, rfl, hM, dr, hm, R, tb, q⟩ := h
    refine ⟨_, (pss_cons (ps_asg (pe_tup (pa_cons pe_int (pa_cons pe_int (pa_cons pe_int (pa_cons (pe_tup pa_nil) (pa_cons (pe_tup (pa_cons pe_int pa_nil)) pa_nil)))))) (pg_tup rfl (pgs_cons (pg_name (i := 3) scLawStory.nd rfl (by first | exact Or.inl rfl | exact Or.inr rfl)) (pgs_cons (pg_name (i := 4) scLawStory.nd rfl (by first | exact Or.inl rfl | exact Or.inr rfl)) (pgs_cons (pg_name (i := 5) scLawStory.nd rfl (by first | exact Or.inl rfl | exact Or.inr rfl)) (pgs_cons (pg_name (i := 6) scLawStory.nd rfl (by first | exact Or.inl rfl | exact Or.inr rfl)) (pgs_cons (pg_name (i := 7) scLawStory.nd rfl (by first | exact Or.inl rfl | exact Or.inr rfl)) pgs_nil))))))) (pss_cons (ps_for PassesOwn.never rfl (pi_range1 (by rfl) (m_range z) (pa_cons (pe_cal CLawTaken (hr.mono (by decide)) (by rfl) (pa_cons (pv 0) (pa_cons (pv 2) pa_nil))) pa_nil)) (pg_name (i := 8) scLawStory.nd rfl (by first | exact Or.inl rfl | exact Or.inr rfl)) (pss_cons (ps_set (i := 9) scLawStory.nd rfl (by first | exact Or.inl rfl | exact Or.inr rfl) (pe_op op_add (pe_ix ix_tup (pv 1) pe_int (fun _ _ => rfl)) (pe_cal CLawTaken (hr.mono (by decide)) (by rfl) (pa_cons (pv 0) (pa_cons (pe_op op_add (pe_op op_sub (pe_ix ix_tup (pv 1) pe_int (fun _ _ => rfl)) (pe_ix ix_tup (pv 1) pe_int (fun _ _ => rfl))) pe_int) pa_nil))))) (pss_cons (ps_for PassesOwn.never rfl (pi_range1 (by rfl) (m_range z) (pa_cons (pv 9) pa_nil)) (pg_name (i := 10) scLawStory.nd rfl (by first | exact Or.inl rfl | exact Or.inr rfl)) (pss_cons (ps_set (i := 3) scLawStory.nd rfl (by first | exact Or.inl rfl | exact Or.inr rfl) (pe_op op_add (pv 3) pe_int)) (pss_one (ps_if (PW.pt (pw_and (pt_cmpR op_ge (pv 3) (pv 5) (nomark _)) (pw_and (pt_cmpR (op_neD hr.units) (pe_ix ix_tup (pv 1) pe_int (fun _ _ => rfl)) (pe_tup pa_nil) (nomark _)) (pw_and1 (pt_cmpR op_eq (pe_cal CLawTaken (hr.mono (by decide)) (by rfl) (pa_cons (pv 0) (pa_cons pe_int pa_nil))) pe_int (nomark _)))))) (pss_one (ps_par (i := 6) (j := 5) rfl scLawStory.nd rfl rfl (by decide) rfl rfl (pa_cons (pe_op op_catA (pv 6) (pe_tup (pa_cons (pe_tup (pa_cons (pv 3) (pa_cons (pe_cal CLawPick (hr.mono (by decide)) (by rfl) (pa_cons (pv 0) (pa_cons (pe_callTy call_list_of (by rfl) (m_list z) (by decide +kernel) (pa_cons (pe_ix ix_tup (pv 1) pe_int (fun _ _ => rfl)) pa_nil)) pa_nil))) pa_nil))) pa_nil))) (pa_cons (pe_op op_add (pv 3) (pe_ix ix_tup (pv 1) pe_int (fun _ _ => rfl))) pa_nil)) (by rfl))) pss_nil)))) (pss_one (ps_set (i := 7) scLawStory.nd rfl (by first | exact Or.inl rfl | exact Or.inr rfl) (pe_op op_catA (pv 7) (pe_tup (pa_cons (pv 3) pa_nil)))))))) (pss_one (ps_ret (pe_tup (pa_cons (pv 7) (pa_cons (pv 6) pa_nil))))))), ?_⟩
    have ok := dr.ok
    have hh := ok.hours
    have hsoon := ok.soon
    have hlate := ok.late
    have hrest := ok.rest
    have hlt := dr.late
    refine ⟨Nat.zero_le _, fun e ne => ⟨(by show 1 ≤ sizeLine; decide), fun f nf => ⟨(by show 5 ≤ sizeLine; decide), fun t nt => ⟨t, _, rfl, SqT.of upd_same, rfl, _, _, rfl, _, _, rfl, _, _, rfl, _, _, rfl, _, _, rfl, rfl, ?_⟩⟩⟩⟩
    have c1 := Go.new (o := .tup []) tb ne
    have c2 := c1.trans (Go.new (o := .tup [.int 0]) c1.t1 nf)
    have c3 : Go (tabs K) H _ := c2.trans (Go.new (o := .tup [.int 0, .int 0, .int 1, .ref e, .ref f]) c2.t1 nt)
    have hf : SqT K _ f (vi [0]) := (Go.new (o := .tup [.int 0, .int 0, .int 1, .ref e, .ref f]) c2.t1 nt).sqT (SqT.of upd_same)
    have he : SqT K _ e (([] : List Addr).map V.ref) := ((Go.new (o := .tup [.int 0]) c1.t1 nf).trans (Go.new (o := .tup [.int 0, .int 0, .int 1, .ref e, .ref f]) c2.t1 nt)).sqT (SqT.of upd_same)
    refine ⟨_, rfl, _, rfl, r, sc, ns, m, rfl, by omega, R.go c3, c3.t1, fun v H1 p1 b1 R1 g1 _ => ⟨v, rfl, by omega, by omega, ?_⟩⟩
    have g01 : Gw (tabs K) r H H1 := (Gw.of c3 R.lst).trans g1
    refine for_range (lo := 0) (n := v.toNat) (fun i σ H' => ∃ (hour least : Int) (ws : List Int) (ps : List (Int × Int)) (sa wa : Addr) (e4 e8 e9 e10 : Option V), σ = [some (.ref r), some (.ref a), some (.int m), some (.int hour), e4, some (.int least), some (.ref sa), some (.ref wa), e8, e9, e10] ∧
        SqT K H' wa (vi ws) ∧ PairsAt K H' sa ps ∧ RowAt K H' r sc ns ∧ Gw (tabs K) r H H' ∧ ws.length = i + 1 ∧ ws.getLast? = some hour ∧ (0 ≤ hour ∧ hour ≤ 5 * (i : Int)) ∧ Grown M hour ws ps ∧ least = setsEnd M 1 ps)
      ⟨0, 1, [0], [], e, f, _, _, _, _, rfl, g1.sqT hf, ⟨[], g1.sqT he, rfl, fun i r p h1 => by simp at h1⟩, R1, g01, rfl, rfl, by omega, ⟨rfl, fun j x y _ h2 => by simp at h2, rfl, by simp⟩, rfl⟩ (fun i σ H' hi p => ?_) (fun σ H' p => ?_)
    · obtain ⟨hour, least, ws, ps, sa, wa, e4, e8, e9, e10, rfl, hW, hP, R2, g2, hlen, hlast, hhr, G, rfl⟩ := p
      obtain ⟨s1, hA, hs⟩ := g2.alm hM
      -- gap
      refine ⟨_, rfl, a, _, 3, _, rfl, rfl, hA, rfl, _, rfl, _, rfl, a, _, 4, _, rfl, rfl, hA, rfl, _, rfl, a, _, 3, _, rfl, rfl, hA, rfl, _, _, rfl, rfl, _, _, rfl, rfl, r, sc, ns, _, rfl, by omega, R2, g2.t1, fun v2 H3 p3 b3 R3 g3 _ => ⟨_, _, rfl, rfl, ?_⟩⟩
      have g23 := g2.trans g3
      have hA3 := g3.sqT hA
      have hs3 := g3.sqT hs
      refine ⟨_, rfl, M.soon + v2, rfl, by omega, by omega, ?_⟩
      refine for_range (lo := 0) (n := (M.soon + v2).toNat) (fun j σ H' => ∃ (ps : List (Int × Int)) (sa : Addr) (e10 : Option V), σ = [some (.ref r), some (.ref a), some (.int m), some (.int (hour + j)), e4, some (.int (setsEnd M 1 ps)), some (.ref sa), some (.ref wa), some (.int (0 + i)), some (.int (M.soon + v2)), e10] ∧
          SqT K H' wa (vi ws) ∧ PairsAt K H' sa ps ∧ RowAt K H' r sc ns ∧ Gw (tabs K) r H3 H' ∧ setsOk M (hour + j) 1 ps = true ∧ (ps.length : Int) ≤ hour + j)
        ⟨ps, sa, e10, ?_, g3.sqT hW, g3.pairs hP, R3, Gw.refl g3.t1 R3.lst, ?_, ?_⟩ (fun j σ H' hj p => ?_) (fun σ H' p => ?_)
      · simp
      · simpa using G.sets
      · simpa using G.few
      · obtain ⟨ps, sa, e10, rfl, hW, hP, R4, g4, hso, hpl⟩ := p
        have hA4 := g4.sqT hA3
        have hs4 := g4.sqT hs3
        -- hour = hour + 1
        refine ⟨_, rfl, _, _, rfl, rfl, ?_⟩
        have hnext : hour + (j : Int) + 1 = hour + ((j + 1 : Nat) : Int) := by omega
        -- where nothing is set
        have still : ∀ {H'' : Hp}, RowAt K H'' r sc ns → Gw (tabs K) r H' H'' → ∃ (ps' : List (Int × Int)) (sa' : Addr) (e10 : Option V), [some (V.ref r), some (.ref a), some (.int m), some (.int (hour + (j : Int) + 1)), e4, some (.int (setsEnd M 1 ps)), some (.ref sa), some (.ref wa), some (.int (0 + i)), some (.int (M.soon + v2)), some (.int (0 + (j : Int)))] =
            [some (.ref r), some (.ref a), some (.int m), some (.int (hour + ((j + 1 : Nat) : Int))), e4, some (.int (setsEnd M 1 ps')), some (.ref sa'), some (.ref wa), some (.int (0 + i)), some (.int (M.soon + v2)), e10] ∧
            SqT K H'' wa (vi ws) ∧ PairsAt K H'' sa' ps' ∧ RowAt K H'' r sc ns ∧ Gw (tabs K) r H3 H'' ∧ setsOk M (hour + ((j + 1 : Nat) : Int)) 1 ps' = true ∧ (ps'.length : Int) ≤ hour + ((j + 1 : Nat) : Int) := fun R5 g5 =>
          ⟨ps, sa, _, by rw [hnext], g5.sqT hW, g5.pairs hP, R5, g4.trans g5, setsOk_up (by omega) hso, by omega⟩
        refine ⟨_, rfl, _, rfl, _, _, rfl, rfl, _, rfl, ?_⟩
        by_cases c1 : setsEnd M 1 ps ≤ hour + (j : Int) + 1
        · refine iteD c1 ?_
          refine ⟨_, rfl, a, _, 5, _, rfl, rfl, hA4, rfl, Nat.zero_le _, fun e ne => ?_⟩
          have c5 := Go.new (o := .tup []) g4.t1 ne
          have go := Gw.of c5 R4.lst
          -- settings != ()
          have dp : ∃ ds, Dp K (upd H' e (.tup [])) (.ref s1) (.tuple ds) ∧ SeqAt.shaped (.tuple ds) = true ∧ PyData.eqv (.tuple ds) (.tuple []) = decide (M.sets = []) := by
            have hl := dr.few
            have hS := go.sqT hs4
            cases hq : M.sets with
            | nil =>
              rw [hq] at hS
              exact ⟨[], .tup hS .nil, rfl, rfl⟩
            | cons x l =>
              cases l with
              | nil =>
                rw [hq] at hS
                exact ⟨[.int x], .tup hS (.cons (.int x) .nil), rfl, rfl⟩
              | cons y l =>
                cases l with
                | nil =>
                  rw [hq] at hS
                  exact ⟨[.int x, .int y], .tup hS (.cons (.int x) (.cons (.int y) .nil)), rfl, rfl⟩
                | cons z l =>
                  rw [hq] at hl
                  simp only [List.length_cons] at hl
                  omega
          obtain ⟨ds, d1, d2, d3⟩ := dp
          refine ⟨.tuple ds, .tuple [], d1, .tup (SqT.of upd_same) .nil, d2, rfl, _, rfl, ?_⟩
          rw [d3]
          by_cases c2 : M.sets = []
          · refine iteNS c2 (iteF ?_)
            exact still (R4.go c5) go
          · refine iteNN c2 ?_
            refine ⟨_, rfl, r, sc, ns, 3, rfl, by decide, R4.go c5, c5.t1, fun v5 H5 p5 b5 R5 g5 _ => ⟨rfl, _, rfl, ?_⟩⟩
            have g45 := go.trans g5
            by_cases c3 : V.int v5 = V.int 0
            · refine iteD c3 ?_
              -- a setting
              have hA5 := g45.sqT hA4
              have hs5 := g45.sqT hs4
              obtain ⟨rs, hS5, hrl, hR5⟩ := g45.pairs hP
              refine ⟨_, rfl, _, rfl, _, rfl, _, rfl, a, _, 5, _, rfl, rfl, hA5, rfl, s1, vi M.sets, rfl, .inr hs5, fun l nl => ?_⟩
              have hnl : l ≠ r := fun z => by
                obtain ⟨xs, e1⟩ := R5.lst
                rw [z, e1] at nl
                cases nl
              have c6 := Go.new (o := .lst (vi M.sets)) g5.t1 nl
              have hsl : 1 ≤ (vi M.sets).length ∧ (vi M.sets).length < 1000000 := by
                have := dr.few
                rw [List.length_map]
                have : M.sets.length ≠ 0 := fun z => c2 (List.length_eq_zero_iff.mp z)
                omega
              refine ⟨r, sc, l, ns, vi M.sets, rfl, SqL.of upd_same, hnl, hsl, R5.go c6, c6.t1, fun x H6 hx R6 g6 => ?_⟩
              obtain ⟨st, hst, rfl⟩ := List.mem_map.mp hx
              refine ⟨two_line, fun t1 n1 => ⟨(by show 1 ≤ sizeLine; decide), fun t2 n2 => ?_⟩⟩
              have c7 := Go.new (o := .tup [.int (hour + (j : Int) + 1), .int st]) g6.t1 n1
              have c8 := Go.new (o := .tup [.ref t1]) c7.t1 n2
              have g68 : Gw (tabs K) r H5 _ := ((Gw.of c6 R5.lst).trans g6).trans (Gw.of (c7.trans c8) R6.lst)
              refine cat1 c8.t1 (g68.sqT hS5) (SqT.of upd_same) (by rw [List.length_map]; omega) fun p H9 c9 hp => ?_
              have g59 := g68.trans (Gw.of c9 (R6.go (c7.trans c8)).lst)
              have g49 := g45.trans g59
              have hA9 := g49.sqT hA4
              refine ⟨_, rfl, _, rfl, a, _, 6, _, rfl, rfl, hA9, rfl, _, _, rfl, rfl, _, _, rfl, ?_⟩
              refine ⟨ps ++ [(hour + (j : Int) + 1, st)], p, some (.int (0 + (j : Int))), ?_, g49.sqT hW, ?_, (R6.go (c7.trans c8)).go c9, g4.trans g49, ?_, ?_⟩
              · rw [setsEnd_app, ← hnext]
                rfl
              · exact PairsAt.snoc (a := p) hrl (fun i r p e1 e2 => g59.sqT (hR5 i r p e1 e2)) hp (c9.sqT (c8.sqT (SqT.of upd_same)))
              · rw [← hnext]
                exact setsOk_app (setsOk_up (by omega) hso) c1 (Int.le_refl _) hst
              · rw [List.length_append, List.length_singleton]
                omega
            · refine iteDN c3 ?_
              exact still R5 g45
        · refine iteDN c1 ?_
          refine iteF ?_
          exact still R4 (Gw.refl g4.t1 R4.lst)
      · -- wakings + (hour,)
        obtain ⟨ps', sa', e10', rfl, hW, hP, R4, g4, hso, hpl⟩ := p
        refine ⟨_, rfl, _, rfl, (by show 1 ≤ sizeLine; decide), fun t2 n2 => ?_⟩
        have c5 := Go.new (o := .tup [.int (hour + ((M.soon + v2).toNat : Int))]) g4.t1 n2
        refine cat1 c5.t1 (c5.sqT hW) (SqT.of upd_same) (by rw [List.length_map]; omega) fun p H9 c9 hp => ?_
        have g9 := Gw.of (c5.trans c9) R4.lst
        have e1 : ((M.soon + v2).toNat : Int) = M.soon + v2 := by omega
        rw [e1] at hso hpl hp ⊢
        refine ⟨hour + (M.soon + v2), _, ws ++ [hour + (M.soon + v2)], ps', sa', p, _, _, _, _, rfl, ?_, g9.pairs hP, R4.go (c5.trans c9), (g2.trans g3).trans (g4.trans g9), ?_, ?_, ?_, ⟨?_, ?_, hso, hpl⟩, rfl⟩
        · rw [show vi (ws ++ [hour + (M.soon + v2)]) = vi ws ++ [.int (hour + (M.soon + v2))] from List.map_append ..]
          exact hp
        · rw [List.length_append, hlen]
          rfl
        · simp
        · omega
        · rw [List.getElem?_append_left (by omega)]
          exact G.start
        · intro j x y h1 h2
          by_cases hj : j + 1 < ws.length
          · rw [List.getElem?_append_left (by omega)] at h1
            rw [List.getElem?_append_left hj] at h2
            exact G.gaps j x y h1 h2
          · have hj2 : j + 1 < (ws ++ [hour + (M.soon + v2)]).length := (List.getElem?_eq_some_iff.mp h2).1
            rw [List.length_append, List.length_singleton] at hj2
            have e : j + 1 = ws.length := by omega
            rw [e, List.getElem?_append_right (Nat.le_refl _), Nat.sub_self] at h2
            rw [List.getElem?_append_left (by omega)] at h1
            have e2 : hour + (M.soon + v2) = y := by simpa using h2
            have e3 : x = hour := by
              rw [List.getLast?_eq_getElem?, ← e, Nat.add_sub_cancel, h1] at hlast
              exact Option.some.inj hlast
            omega
    · obtain ⟨hour, least, ws, ps, sa, wa, e4, e8, e9, e10, rfl, hW, hP, R2, g2, hlen, hlast, hhr, G, rfl⟩ := p
      refine ⟨_, rfl, _, rfl, two_line, fun p np => ?_⟩
      have c5 := Go.new (o := .tup [.ref wa, .ref sa]) g2.t1 np
      have g5 := Gw.of c5 R2.lst
      refine q p ws ps _ ⟨wa, sa, SqT.of upd_same, g5.sqT hW, g5.pairs hP⟩ ⟨⟨by omega, by omega⟩, G.start, G.gaps, fun l hl => ?_⟩ (by omega) (R2.go c5) (g2.trans g5)
      rw [hlast] at hl
      cases hl
      exact G.sets
end
end K01

namespace K01
open PySem PySem.Spec PyProof.Rows L2 WC
section
variable {P : Program} {w : World} {K : PySem.W.Frag} {mg : Str → Option Value} {base h : Heap}
def spRead (K : PySem.W.Frag) (T : List Addr) : Sp := fun vs H Q _ => ∃ (a b : Addr) (M : Alm) (ws : List Int) (ps : List (Int × Int)), vs = [.ref a, .ref b] ∧ AlmAt K H a M ∧ M.Ok ∧ StoryAt K H b ws ps ∧ ws.length ≤ 60 ∧ ps.length ≤ 1000 ∧ Tb T H ∧
  ∀ p H', Go T H H' → H' p = some (.tup (vi (readL M.hours ps ws))) → Q (.ref p) H'
theorem okLawRead (z : Zf w K mg base h) : Cal P w K mg base 1 "_law_read" ["almanac", "story"] (spRead K (tabs K)) := by
  refine cal_of (fdLawRead z) (gLawRead z) scLawRead (fun _ _ _ _ _ _ us hl => match us, hl with | [_, _], _ => rfl) (fun vs H Q E h => ?_) (fun A outer s H vs Q E hr h => ?_)
  · obtain ⟨a, b, M, ws, ps, rfl, _⟩ := h
    rfl
  · obtain ⟨a, b, M, ws, ps, rfl, ⟨s1, hA, hs⟩, ok, ⟨x, y, hB, hX, ⟨rs, hY, hlen, hP⟩⟩, few, fewp, tb, q⟩ := h
    refine ⟨_, (pss_cons (ps_set (i := 2) scLawRead.nd rfl (by first | exact Or.inl rfl | exact Or.inr rfl) (pe_lst pa_nil)) (pss_cons (ps_for PassesOwn.never rfl (pi_tup (pe_ix ix_tup (pv 1) pe_int (fun _ _ => rfl))) (pg_name (i := 3) scLawRead.nd rfl (by first | exact Or.inl rfl | exact Or.inr rfl)) (pss_cons (ps_set (i := 4) scLawRead.nd rfl (by first | exact Or.inl rfl | exact Or.inr rfl) (pe_callB (cr_sum rfl) (by rfl) (m_sum z) (by decide +kernel) (pa_cons (pe_lc (own := [("hour", 5), ("one", 6)]) (g := gTup K 2 (gCons (gName 5) (gCons (gName 6) gNil))) rfl scLawRead.nd (pi_tup (pe_ix ix_tup (pv 1) pe_int (fun _ _ => rfl))) (blkOk_by (N := ["almanac", "story", "found", "waking", "error", "hour", "one"]) (sc := defScope sLawRead) (by decide +kernel)) (fun _ _ _ _ _ => pg_tup rfl (pgs_cons (pg_name (i := 5) scLawRead.nd rfl (by first | exact Or.inl rfl | exact Or.inr rfl)) (pgs_cons (pg_name (i := 6) scLawRead.nd rfl (by first | exact Or.inl rfl | exact Or.inr rfl)) pgs_nil))) (fun _ _ _ _ _ => pts_one (pt_cmpR op_le (pv 5) (pv 3) (nomark _))) (fun _ _ _ _ _ => (pv 6))) pa_nil))) (pss_one (ps_expr (pe_bm PySem.F.plainAttrs_list PySem.F.slot_list_append PySem.F.type_list_append mt_append (pv 2) (pa_cons (pe_op op_modN (pe_callTy call_int1 (by rfl) (m_int z) (by decide +kernel) (pa_cons (pe_op op_add (pv 3) (pv 4)) pa_nil)) (pe_ix ix_tup (pv 0) pe_int (fun _ _ => rfl))) pa_nil)))))) (pss_one (ps_ret (pe_callTy call_tuple_of (by rfl) (m_tuple z) (by decide +kernel) (pa_cons (pv 2) pa_nil)))))), ?_⟩
    have hl : (vi ws).length = ws.length := List.length_map ..
    have hh := ok.hours
    refine ⟨Nat.zero_le _, fun o no => ?_⟩
    have g0 : ∀ u, Go (tabs K) H (upd H o u) := fun u => Go.new tb no
    refine ⟨_, rfl, b, _, 0, _, rfl, rfl, (g0 _).sqT hB, rfl, x, rfl, ⟨_, (g0 _).sqT hX⟩, for_tup (xs := vi ws) (fun i σ H' => H' o = some (.lst (vi ((readL M.hours ps ws).take i))) ∧ Go (tabs K) H H' ∧ ∃ (e3 e4 e5 e6 : Option V), σ = [some (.ref a), some (.ref b), some (.ref o), e3, e4, e5, e6])
      ⟨upd_same, g0 _, _, _, _, _, rfl⟩ (fun i σ H' _ p => p.2.1.sqT hX) (fun i v σ H' hx p => ?_) (fun σ H' p => ?_)⟩
    · obtain ⟨hO, g1, e3, e4, e5, e6, rfl⟩ := p
      obtain ⟨wk, hw, rfl⟩ := vi_get hx
      have hsl : (readL M.hours ps ws)[i]? = some ((wk + sumF ps wk) % M.hours) := by
        unfold readL
        rw [List.getElem?_map, hw]
        rfl
      have hil : i < ws.length := (List.getElem?_eq_some_iff.mp hw).1
      -- the sum
      refine ⟨_, rfl, b, _, 1, _, rfl, rfl, g1.sqT hB, rfl, y, rfl, ⟨_, g1.sqT hY⟩, fun D nD => ?_⟩
      refine lc_tup (xs := rs.map V.ref) (fun j H2 => H2 D = some (.lst (vi (((ps.take j).filter fun p => decide (p.1 ≤ wk)).map (·.2)))) ∧ Go (tabs K) H' H2) ⟨upd_same, Go.new g1.t1 nD⟩ (fun j H2 _ p => (g1.trans p.2).sqT hY) (fun j v H2 hv p => ?_) (fun H2 p => ?_)
      · obtain ⟨hD, g2⟩ := p
        rw [List.getElem?_map] at hv
        obtain ⟨r, hr1, rfl⟩ : ∃ r, rs[j]? = some r ∧ V.ref r = v := by
          cases q2 : rs[j]? with
          | none => rw [q2] at hv; cases hv
          | some r => rw [q2] at hv; exact ⟨r, rfl, Option.some.inj hv⟩
        have hj : j < ps.length := by
          have := (List.getElem?_eq_some_iff.mp hr1).1
          omega
        have hp1 : ps[j]? = some ps[j] := List.getElem?_eq_getElem hj
        have hR := (g1.trans g2).sqT (hP j r _ hr1 hp1)
        have htk : ps.take (j + 1) = ps.take j ++ [ps[j]] := by rw [List.take_add_one, hp1]; rfl
        rw [htk, List.filter_append, List.map_append]
        generalize ps[j] = pj at hR htk
        refine ⟨r, _, rfl, hR, rfl, _, _, rfl, _, _, rfl, rfl, rfl, ?_⟩
        refine ⟨_, rfl, _, rfl, _, _, rfl, rfl, _, rfl, ite2 (fun c1 => ?_) (fun c1 => ?_)⟩
        · have c1 : pj.1 ≤ wk := of_decide_eq_true c1
          refine ⟨_, rfl, _, hD, ?_, ?_, ?_⟩
          · rw [List.length_map, List.length_map]
            refine Nat.lt_of_le_of_lt (List.length_filter_le ..) ?_
            rw [List.length_take]
            exact small1000 (by omega)
          · rw [upd_same]
            simp [c1]
          · exact g2.own nD hD
        · have c1 : ¬ pj.1 ≤ wk := fun z => c1 (decide_eq_true z)
          refine ⟨?_, g2⟩
          rw [hD]
          simp [c1]
      · obtain ⟨hD, g2⟩ := p
        rw [List.length_map, List.take_of_length_le (by omega)] at hD
        have g3 := g1.trans g2
        have hO2 := g2.lst hO
        refine ⟨D, _, rfl, SqL.of hD, ?_⟩
        have hA3 := g3.sqT hA
        refine ⟨.ref o, rfl, .inl ⟨rfl, _, .inl (.inl hO2)⟩, _, rfl, _, rfl, _, _, rfl, rfl, .inl ⟨_, rfl, ?_⟩⟩
        refine ⟨_, rfl, a, _, 0, _, rfl, rfl, hA3, rfl, _, _, rfl, rfl, (show M.hours ≠ 0 by omega), o, _, _, rfl, rfl, hO2, ?_, ?_⟩
        · rw [List.length_map, List.length_take]
          exact Nat.lt_of_le_of_lt (Nat.min_le_left _ _) (small1000 (by omega))
        · refine ⟨?_, g3.own no hO2, _, _, _, _, rfl⟩
          rw [upd_same, List.take_add_one, hsl]
          show some (HO.lst (vi (List.take i (readL M.hours ps ws)) ++ [.int ((wk + sumF ps wk).fmod M.hours)])) = _
          rw [Int.fmod_eq_emod_of_nonneg _ (by omega), show vi (List.take i (readL M.hours ps ws) ++ (some ((wk + sumF ps wk) % M.hours)).toList) = vi (List.take i (readL M.hours ps ws)) ++ [.int ((wk + sumF ps wk) % M.hours)] from List.map_append ..]
    · obtain ⟨hO, g1, e3, e4, e5, e6, rfl⟩ := p
      rw [hl, List.take_of_length_le (by unfold readL; rw [List.length_map]; exact Nat.le_refl _)] at hO
      refine ⟨_, rfl, o, _, rfl, .inl ⟨SqL.of hO, fun l nl => ?_⟩⟩
      exact q l _ (g1.trans (Go.new g1.t1 nl)) upd_same
end
end K01

namespace K01
open PySem PySem.Spec PyProof.Rows L2 WC
section
variable {P : Program} {w : World} {K : PySem.W.Frag} {mg : Str → Option Value} {base h : Heap}
def spCount (K : PySem.W.Frag) (f : Alm → Int → Int) : Sp := fun vs H Q _ => ∃ (a : Addr) (M : Alm) (n : Int), vs = [.ref a, .int n] ∧ AlmAt K H a M ∧ M.Ok ∧ (0 ≤ n ∧ n ≤ 1000000) ∧ Q (.int (f M n)) H
theorem div_small {n d : Int} (hd : 2 ≤ d) (h : -1000000 ≤ n ∧ n ≤ 1000000) : -1000000 ≤ n / d ∧ n / d ≤ 1000000 := by
  constructor
  · rw [Int.le_ediv_iff_mul_le (by omega)]
    omega
  · have := Int.ediv_lt_of_lt_mul (a := n) (b := 1000001) (c := d) (by omega) (by omega)
    omega
theorem okLawShut (z : Zf w K mg base h) : Cal P w K mg base 1 "_law_shut" ["almanac", "hour"] (spCount K shutN) := by
  refine cal_of (fdLawShut z) (gLawShut z) scLawShut (fun _ _ _ _ _ _ us hl => match us, hl with | [_, _], _ => rfl) (fun vs H Q E h => ?_) (fun A outer s H vs Q E hr h => ?_)
  · obtain ⟨a, M, n, rfl, _⟩ := h
    rfl
  · obtain ⟨a, M, n, rfl, ⟨s1, hA, hs⟩, ok, hn, q⟩ := h
    refine ⟨_, (pss_cons (ps_set (i := 2) scLawShut.nd rfl (by first | exact Or.inl rfl | exact Or.inr rfl) pe_int) (pss_cons (ps_while PassesOwn.never (pt_cmpR op_lt (pe_op op_add (pe_op op_mul (pv 2) (pe_ix ix_tup (pv 0) pe_int (fun _ _ => rfl))) (pe_ix ix_tup (pv 0) pe_int (fun _ _ => rfl))) (pv 1) (nomark _)) (pss_one (ps_set (i := 2) scLawShut.nd rfl (by first | exact Or.inl rfl | exact Or.inr rfl) (pe_op op_add (pv 2) pe_int)))) (pss_one (ps_ret (pv 2))))), ?_⟩
    have h1 := ok.hours
    have h2 := ok.first
    have h3 := ok.last
    have key : ∀ f : Int, f * M.hours + M.last < n ↔ f ≤ (n - 1 - M.last) / M.hours := fun f => by
      rw [Int.le_ediv_iff_mul_le (by omega)]
      omega
    have hb : shutN M n ≤ 1000001 ∧ 0 ≤ shutN M n := by
      have := div_small h1.1 (n := n - 1 - M.last) (by omega)
      unfold shutN
      split <;> omega
    have hB : (0 < (n - 1 - M.last) / M.hours + 1 → shutN M n = (n - 1 - M.last) / M.hours + 1) ∧ (¬ 0 < (n - 1 - M.last) / M.hours + 1 → shutN M n = 0) := ⟨fun z => if_pos z, fun z => if_neg z⟩
    generalize shutN M n = B at hb hB q
    generalize (n - 1 - M.last) / M.hours = N at key hB
    refine ⟨fun m σ H' => H' = H ∧ ∃ f : Int, (m : Int) + f = B ∧ 0 ≤ f ∧ σ = [some (.ref a), some (.int n), some (.int f)], ⟨B.toNat, rfl, 0, by omega, Int.le_refl _, rfl⟩, fun m σ H' p => ?_⟩
    obtain ⟨rfl, f, hm, hf, rfl⟩ := p
    refine ⟨_, rfl, _, rfl, a, _, 0, _, rfl, rfl, hA, rfl, _, _, rfl, rfl, .inl (by omega), _, rfl, a, _, 2, _, rfl, rfl, hA, rfl, _, _, rfl, rfl, _, rfl, _, _, rfl, rfl, _, rfl, ite2 (fun c => ?_) (fun c => ?_)⟩
    · have c := (key f).mp (of_decide_eq_true c)
      refine ⟨_, fun σ' H' p => p, ?_⟩
      exact ⟨_, rfl, _, _, rfl, rfl, m - 1, by omega, rfl, f + 1, by omega, by omega, rfl⟩
    · have c : ¬ f ≤ N := fun z => c (decide_eq_true ((key f).mpr z))
      have e : f = B := by omega
      rw [e]
      exact ⟨_, rfl, q⟩
theorem okLawOpen (z : Zf w K mg base h) : Cal P w K mg base 1 "_law_open" ["almanac", "hour"] (spCount K openN) := by
  refine cal_of (fdLawOpen z) (gLawOpen z) scLawOpen (fun _ _ _ _ _ _ us hl => match us, hl with | [_, _], _ => rfl) (fun vs H Q E h => ?_) (fun A outer s H vs Q E hr h => ?_)
  · obtain ⟨a, M, n, rfl, _⟩ := h
    rfl
  · obtain ⟨a, M, n, rfl, ⟨s1, hA, hs⟩, ok, hn, q⟩ := h
    refine ⟨_, (pss_cons (ps_set (i := 2) scLawOpen.nd rfl (by first | exact Or.inl rfl | exact Or.inr rfl) pe_int) (pss_cons (ps_while PassesOwn.never (pt_cmpR op_le (pe_op op_add (pe_op op_mul (pv 2) (pe_ix ix_tup (pv 0) pe_int (fun _ _ => rfl))) (pe_ix ix_tup (pv 0) pe_int (fun _ _ => rfl))) (pv 1) (nomark _)) (pss_one (ps_set (i := 2) scLawOpen.nd rfl (by first | exact Or.inl rfl | exact Or.inr rfl) (pe_op op_add (pv 2) pe_int)))) (pss_one (ps_ret (pv 2))))), ?_⟩
    have h1 := ok.hours
    have h2 := ok.first
    have key : ∀ f : Int, f * M.hours + M.first ≤ n ↔ f ≤ (n - M.first) / M.hours := fun f => by
      rw [Int.le_ediv_iff_mul_le (by omega)]
      omega
    have hd := div_small h1.1 (n := n - M.first) (by omega)
    have hlow : -1 ≤ (n - M.first) / M.hours := by
      rw [Int.le_ediv_iff_mul_le (by omega)]
      omega
    unfold openN at q
    generalize (n - M.first) / M.hours = N at key hd hlow q
    refine ⟨fun m σ H' => H' = H ∧ ∃ f : Int, (m : Int) + f = N + 1 ∧ 0 ≤ f ∧ σ = [some (.ref a), some (.int n), some (.int f)], ⟨(N + 1).toNat, rfl, 0, by omega, Int.le_refl _, rfl⟩, fun m σ H' p => ?_⟩
    obtain ⟨rfl, f, hm, hf, rfl⟩ := p
    refine ⟨_, rfl, _, rfl, a, _, 0, _, rfl, rfl, hA, rfl, _, _, rfl, rfl, .inl (by omega), _, rfl, a, _, 1, _, rfl, rfl, hA, rfl, _, _, rfl, rfl, _, rfl, _, _, rfl, rfl, _, rfl, ite2 (fun c => ?_) (fun c => ?_)⟩
    · have c := (key f).mp (of_decide_eq_true c)
      refine ⟨_, fun σ' H' p => p, ?_⟩
      exact ⟨_, rfl, _, _, rfl, rfl, m - 1, by omega, rfl, f + 1, by omega, by omega, rfl⟩
    · have c : ¬ f ≤ N := fun z => c (decide_eq_true ((key f).mpr z))
      have e : f = N + 1 := by omega
      rw [e]
      exact ⟨_, rfl, q⟩
end
end K01

namespace K01
open PySem PySem.Spec PyProof.Rows L2 WC
section
variable {P : Program} {w : World} {K : PySem.W.Frag} {mg : Str → Option Value} {base h : Heap}
def spAlike (K : PySem.W.Frag) (T : List Addr) (n : Nat) : Sp := fun vs H Q _ => ∃ (x y : V) (d : PyData), vs = [x, y] ∧ Dp K H x d ∧ Dp K H y d ∧ Deep n d ∧ Tb T H ∧ ∀ H', Go T H H' → Q (.bl true) H'
theorem alikeBody (z : Zf w K mg base h) {k n : Nat} {sp0 : Sp} (CLawAlike : Cal P w K mg base k "_law_alike" ["found", "wished"] sp0) (hsp : ∀ m, n = m + 1 → ∀ vs H Q E, spAlike K (tabs K) m vs H Q E → sp0 vs H Q E) :
    Cal P w K mg base (k + 1) "_law_alike" ["found", "wished"] (spAlike K (tabs K) n) := by
  refine cal_of (fdLawAlike z) (gLawAlike z) scLawAlike (fun _ _ _ _ _ _ us hl => match us, hl with | [_, _], _ => rfl) (fun vs H Q E h => ?_) (fun A outer s H vs Q E hr h => ?_)
  · obtain ⟨x, y, d, rfl, _⟩ := h
    rfl
  · obtain ⟨x, y, d, rfl, hx, hy, hd, tb, q⟩ := h
    refine ⟨_, (pss_cons (ps_if (pt_val (pe_callB call_isiT (by rfl) (m_isinstance z) (by decide +kernel) (pa_cons (pv 1) (pa_cons (pe_tup (pa_cons (pe_bltn (v := .ty "tuple") (by rfl) (m_tuple z) (by decide +kernel) rfl) (pa_cons (pe_bltn (v := .ty "list") (by rfl) (m_list z) (by decide +kernel) rfl) pa_nil))) pa_nil)))) (pss_cons (ps_if (PW.pt (pw_or (pt_not (pt_val (pe_callB call_isiT (by rfl) (m_isinstance z) (by decide +kernel) (pa_cons (pv 0) (pa_cons (pe_tup (pa_cons (pe_bltn (v := .ty "tuple") (by rfl) (m_tuple z) (by decide +kernel) rfl) (pa_cons (pe_bltn (v := .ty "list") (by rfl) (m_list z) (by decide +kernel) rfl) pa_nil))) pa_nil))))) (pw_or1 (pt_cmpR op_ne (pe_callB call_isi (by rfl) (m_isinstance z) (by decide +kernel) (pa_cons (pv 0) (pa_cons (pe_bltn (v := .ty "list") (by rfl) (m_list z) (by decide +kernel) rfl) pa_nil))) (pe_callB call_isi (by rfl) (m_isinstance z) (by decide +kernel) (pa_cons (pv 1) (pa_cons (pe_bltn (v := .ty "list") (by rfl) (m_list z) (by decide +kernel) rfl) pa_nil))) (nomark _))))) (pss_one (ps_ret pe_bl)) pss_nil) (pss_cons (ps_if (pt_cmpR op_ne (pe_callB call_len_seq (by rfl) (m_len z) (by decide +kernel) (pa_cons (pv 0) pa_nil)) (pe_callB call_len_seq (by rfl) (m_len z) (by decide +kernel) (pa_cons (pv 1) pa_nil)) (nomark _)) (pss_one (ps_ret pe_bl)) pss_nil) (pss_one (ps_ret (pe_cmpR (op_eqD hr.units) (pe_lc (own := [("k", 2)]) (tt := tNot (tB (tCall sp0 [] E0 (tCons (tOp (rIx K) (tVar 0) (tVar 2)) (tCons (tOp (rIx K) (tVar 1) (tVar 2)) tNil))))) rfl scLawAlike.nd (pi_range1 (by rfl) (m_range z) (pa_cons (pe_callB call_len_seq (by rfl) (m_len z) (by decide +kernel) (pa_cons (pv 1) pa_nil)) pa_nil)) (blkOk_by (N := ["found", "wished", "k"]) (sc := defScope sLawAlike) (by decide +kernel)) (fun _ _ _ _ _ => pg_name (i := 2) scLawAlike.nd rfl (by first | exact Or.inl rfl | exact Or.inr rfl)) (fun _ _ _ _ _ => pts_one (pt_not (pt_val (pe_cal CLawAlike (hr.mono (Nat.le_refl _)) (by rfl) (pa_cons (pe_ix ix_seq (pv 0) (pv 2) (fun _ _ => rfl)) (pa_cons (pe_ix ix_seq (pv 1) (pv 2) (fun _ _ => rfl)) pa_nil)))))) (fun _ _ _ _ _ => (pv 2))) (pe_lst pa_nil) (nomark _)))))) pss_nil) (pss_cons (ps_if (PW.pt (pw_or (pt_cmpR op_isN (pv 1) pe_non (nomark _)) (pw_or1 (pt_val (pe_callB call_isi (by rfl) (m_isinstance z) (by decide +kernel) (pa_cons (pv 1) (pa_cons (pe_bltn (v := .ty "str") (by rfl) (m_str z) (by decide +kernel) rfl) pa_nil))))))) (pss_one (ps_ret (pe_and (pe_cmpR op_eq (pv 0) (pv 1) (nomark _)) (pe_one (pe_cmpR op_eq (pe_callB call_isi (by rfl) (m_isinstance z) (by decide +kernel) (pa_cons (pv 0) (pa_cons (pe_bltn (v := .ty "str") (by rfl) (m_str z) (by decide +kernel) rfl) pa_nil))) (pe_callB call_isi (by rfl) (m_isinstance z) (by decide +kernel) (pa_cons (pv 1) (pa_cons (pe_bltn (v := .ty "str") (by rfl) (m_str z) (by decide +kernel) rfl) pa_nil))) (nomark _)))))) pss_nil) (pss_one (ps_ret (pe_and (pe_callB call_isi (by rfl) (m_isinstance z) (by decide +kernel) (pa_cons (pv 0) (pa_cons (pe_bltn (v := .ty "int") (by rfl) (m_int z) (by decide +kernel) rfl) pa_nil))) (pe_and (pe_cmpR op_eq (pe_callB call_isi (by rfl) (m_isinstance z) (by decide +kernel) (pa_cons (pv 0) (pa_cons (pe_bltn (v := .ty "bool") (by rfl) (m_bool z) (by decide +kernel) rfl) pa_nil))) (pe_callB call_isi (by rfl) (m_isinstance z) (by decide +kernel) (pa_cons (pv 1) (pa_cons (pe_bltn (v := .ty "bool") (by rfl) (m_bool z) (by decide +kernel) rfl) pa_nil))) (nomark _)) (pe_one (pe_cmpR op_eq (pv 0) (pv 1) (nomark _))))))))), ?_⟩
    have kin := kin_of (T := tabs K) hx hy hd
    refine ⟨_, rfl, two_line, fun p np => ?_⟩
    have c1 := Go.new (o := .tup [.ty "tuple", .ty "list"]) tb np
    cases kin with
    | non =>
      refine ⟨.non, p, _, _, _, _, rfl, upd_same, .cons (.ty _) (.cons (.ty _) .nil), .base .non, isTL (a := false) (b := false) (by decide +kernel) (by decide +kernel), _, rfl, iteF ?_⟩
      refine ⟨_, rfl, rfl, _, rfl, iteT ?_⟩
      refine ⟨_, rfl, _, rfl, rfl, _, rfl, iteT ?_⟩
      refine ⟨_, rfl, _, _, _, _, false, rfl, .ty "str", .base .non, kit_ty (by decide +kernel), _, rfl, _, _, _, _, false, rfl, .ty "str", .base .non, kit_ty (by decide +kernel), rfl, ?_⟩
      exact q _ c1
    | str s =>
      refine ⟨.str s, p, _, _, _, _, rfl, upd_same, .cons (.ty _) (.cons (.ty _) .nil), .base (.str s), isTL (a := false) (b := false) (by decide +kernel) (by decide +kernel), _, rfl, iteF ?_⟩
      refine ⟨_, rfl, rfl, _, rfl, iteF ?_⟩
      refine ⟨_, rfl, _, _, _, _, true, rfl, .ty "str", .base (.str s), kit_ty (by decide +kernel), _, rfl, iteT ?_⟩
      refine ⟨_, rfl, _, rfl, rfl, _, rfl, iteD rfl ?_⟩
      refine ⟨_, rfl, _, _, _, _, true, rfl, .ty "str", .base (.str s), kit_ty (by decide +kernel), _, rfl, _, _, _, _, true, rfl, .ty "str", .base (.str s), kit_ty (by decide +kernel), rfl, ?_⟩
      exact q _ c1
    | bool b =>
      refine ⟨.bl b, p, _, _, _, _, rfl, upd_same, .cons (.ty _) (.cons (.ty _) .nil), .base (.bl b), isTL (a := false) (b := false) (by decide +kernel) (by decide +kernel), _, rfl, iteF ?_⟩
      refine ⟨_, rfl, rfl, _, rfl, iteF ?_⟩
      refine ⟨_, rfl, _, _, _, _, false, rfl, .ty "str", .base (.bl b), kit_ty (by decide +kernel), _, rfl, iteF ?_⟩
      refine ⟨_, rfl, _, _, _, _, true, rfl, .ty "int", .base (.bl b), kit_ty (by decide +kernel), _, rfl, iteT ?_⟩
      refine ⟨_, rfl, _, _, _, _, true, rfl, .ty "bool", .base (.bl b), kit_ty (by decide +kernel), _, rfl, _, _, _, _, true, rfl, .ty "bool", .base (.bl b), kit_ty (by decide +kernel), rfl, _, rfl, iteD rfl ?_⟩
      refine ⟨_, rfl, _, rfl, rfl, ?_⟩
      rw [show decide (V.bl b = V.bl b) = true from decide_eq_true rfl]
      exact q _ c1
    | int i =>
      refine ⟨.int i, p, _, _, _, _, rfl, upd_same, .cons (.ty _) (.cons (.ty _) .nil), .base (.int i), isTL (a := false) (b := false) (by decide +kernel) (by decide +kernel), _, rfl, iteF ?_⟩
      refine ⟨_, rfl, rfl, _, rfl, iteF ?_⟩
      refine ⟨_, rfl, _, _, _, _, false, rfl, .ty "str", .base (.int i), kit_ty (by decide +kernel), _, rfl, iteF ?_⟩
      refine ⟨_, rfl, _, _, _, _, true, rfl, .ty "int", .base (.int i), kit_ty (by decide +kernel), _, rfl, iteT ?_⟩
      refine ⟨_, rfl, _, _, _, _, false, rfl, .ty "bool", .base (.int i), kit_ty (by decide +kernel), _, rfl, _, _, _, _, false, rfl, .ty "bool", .base (.int i), kit_ty (by decide +kernel), rfl, _, rfl, iteD rfl ?_⟩
      refine ⟨_, rfl, _, rfl, rfl, ?_⟩
      rw [show decide (V.int i = V.int i) = true from decide_eq_true rfl]
      exact q _ c1
    | @seq a b xs ys ds m t l hn ht k1 k2 ha hb da db hl he =>
      have kt : PySem.W.kitAny K (.type t) [.type "tuple", .type "list"] = some true := by
        have e := isTL (K := K) k1 k2
        rw [show (!l || l) = true by cases l <;> rfl] at e
        exact e
      have lx := dpAll_len da
      have ly := dpAll_len db
      refine ⟨.ref b, p, _, _, _, _, rfl, upd_same, .cons (.ty _) (.cons (.ty _) .nil), (ht _ c1).2, kt, _, rfl, iteT ?_⟩
      refine ⟨_, rfl, two_line, fun p2 np2 => ?_⟩
      have c2 := c1.trans (Go.new (o := .tup [.ty "tuple", .ty "list"]) c1.t1 np2)
      refine ⟨.ref a, p2, _, _, _, _, rfl, upd_same, .cons (.ty _) (.cons (.ty _) .nil), (ht _ c2).1, kt, _, rfl, iteNT ?_⟩
      refine ⟨_, rfl, _, _, _, _, l, rfl, .ty "list", (ht _ c2).1, kit_ty k2, _, rfl, _, _, _, _, l, rfl, .ty "list", (ht _ c2).2, kit_ty k2, rfl, _, rfl, iteNS rfl ?_⟩
      refine ⟨_, rfl, a, xs, rfl, c2.sq ha, _, rfl, b, ys, rfl, c2.sq hb, rfl, _, rfl, iteNS (by rw [lx, ly]) ?_⟩
      refine ⟨_, rfl, b, ys, rfl, c2.sq hb, _, rfl, by omega, by omega, fun D nD => ?_⟩
      have g0 := Go.new (o := .lst []) c2.t1 nD
      refine lc_range (lo := 0) (fun i H' => H' D = some (.lst []) ∧ Go (tabs K) H H') ⟨upd_same, c2.trans g0⟩ (fun i H' hi pv => ?_) (fun H' pv => ?_)
      · obtain ⟨hD, g1⟩ := pv
        have hi2 : i < ds.length := by omega
        obtain ⟨vx, ex, dx⟩ := dpAll_get da (List.getElem?_eq_getElem hi2)
        obtain ⟨vy, ey, dy⟩ := dpAll_get db (List.getElem?_eq_getElem hi2)
        refine ⟨rfl, ?_⟩
        refine ⟨_, rfl, _, rfl, ?_⟩
        rw [Int.zero_add]
        refine rIx_of (g1.sq ha) ex ?_
        refine ⟨_, rfl, _, rfl, ?_⟩
        refine rIx_of (g1.sq hb) ey ?_
        refine hsp m hn _ _ _ _ ⟨vx, vy, ds[i], rfl, dpGo g1 dx, dpGo g1 dy, he _ (List.getElem_mem hi2), g1.t1, fun H2 g2 => ?_⟩
        refine ⟨_, rfl, iteNT ⟨g2.lst hD, g1.trans g2⟩⟩
      · obtain ⟨hD, g1⟩ := pv
        refine ⟨Nat.zero_le _, fun l2 nl => ⟨.list [], .list [], .lst (SqL.of ((Go.new g1.t1 nl).lst hD)) .nil, .lst (SqL.of upd_same) .nil, rfl, rfl, ?_⟩⟩
        exact q _ (g1.trans (Go.new g1.t1 nl))
theorem okLawAlike (z : Zf w K mg base h) : ∀ n : Nat, Cal P w K mg base (n + 1) "_law_alike" ["found", "wished"] (spAlike K (tabs K) n)
  | 0 => by
    obtain ⟨fd, F⟩ := fdLawAlike z
    exact alikeBody z (k := 0) (sp0 := fun _ _ _ _ => False) ⟨_, fd, gLawAlike z, ⟨fun _ _ _ _ h => h.elim, fun _ _ _ _ _ _ _ _ _ _ _ _ _ h => h.elim⟩, F.kp, F.bindsN fun _ _ _ _ _ _ us hl => match us, hl with | [_, _], _ => rfl⟩ fun m e => absurd e (by omega)
  | n + 1 => alikeBody z (okLawAlike z n) fun m e vs H Q E h => by
    have e2 : n = m := by omega
    subst e2
    exact h
end
end K01

namespace K01
open PySem PySem.Spec PyProof.Rows L2 WC
section
variable {P : Program} {w : World} {K : PySem.W.Frag} {mg : Str → Option Value} {base h : Heap}
def spLaw (K : PySem.W.Frag) (T : List Addr) : Sp := fun vs H Q _ => ∃ (a : Addr) (ns : List Int), vs = [.ref a] ∧ SqL K H a (vi ns) ∧ Tb T H ∧ ∀ H', Q (.bl true) H'
theorem sets_few {A : Alm} (ok : A.Ok) {lw : Int} : ∀ {ps : List (Int × Int)} {f : Int}, setsOk A lw f ps = true → f ≤ lw + 12 → (ps.length : Int) + f ≤ lw + 12
  | [], f, _, h => by simpa using h
  | (g, y) :: r, f, h0, h => by
    rw [setsOk_cons] at h0
    simp only [Bool.and_eq_true, decide_eq_true_eq] at h0
    have hr := ok.rest
    have := sets_few ok h0.2 (by omega)
    rw [List.length_cons]
    omega
theorem wakes_low {A : Alm} (ok : A.Ok) {ws : List Int} (h0 : ws[0]? = some 0) (g : gapsOk A ws) : ∀ (j : Nat) (x : Int), ws[j]? = some x → x ≤ 24 * j
  | 0, x, h => by
    rw [h0] at h
    cases h
    omega
  | j + 1, x, h => by
    have hj : j < ws.length := by
      have := (List.getElem?_eq_some_iff.mp h).1
      omega
    have ih := wakes_low ok h0 g j _ (List.getElem?_eq_getElem hj)
    have := g j _ x (List.getElem?_eq_getElem hj) h
    have := ok.late
    omega
theorem wakes_nn {A : Alm} (ok : A.Ok) {ws : List Int} (h0 : ws[0]? = some 0) (g : gapsOk A ws) : ∀ (j : Nat) (x : Int), ws[j]? = some x → 0 ≤ x
  | 0, x, h => by
    rw [h0] at h
    cases h
    omega
  | j + 1, x, h => by
    have hj : j < ws.length := by
      have := (List.getElem?_eq_some_iff.mp h).1
      omega
    have ih := wakes_nn ok h0 g j _ (List.getElem?_eq_getElem hj)
    have := g j _ x (List.getElem?_eq_getElem hj) h
    have := ok.soon
    omega
theorem okLaw (z : Zf w K mg base h) {fd : FuncData} (F : FunD K "law" "law" (defArgs sLaw) (defBody sLaw) (defScope sLaw) [] [] (He.fAd K ("law", none)) fd) : FnOk P w K mg base CX0 8 (He.fAd K ("law", none)) fd ["script"] (spLaw K (tabs K)) := by
  have CLawAlmanac := okLawAlmanac (P := P) z
  have CLawStory := okLawStory (P := P) z
  have CLawAlike := okLawAlike (P := P) z 1
  have CReadings := okReadings (P := P) z
  have CLawRead := okLawRead (P := P) z
  have CLawTaken := okLawTaken (P := P) z
  have CLawShut := okLawShut (P := P) z
  have CLawOpen := okLawOpen (P := P) z
  have CShut := okShut (P := P) z
  have COpened := okOpened (P := P) z
  have CUrgent := okUrgent (P := P) z
  refine fnok_of F scLaw (fun vs H Q E h => ?_) (fun A outer s H vs Q E hr h => ?_)
  · obtain ⟨a, ns, rfl, _⟩ := h
    rfl
  · obtain ⟨sc, ns, rfl, hS, tb, q⟩ := h
    refine ⟨_, (pss_cons (ps_set (i := 1) scLaw.nd rfl (by first | exact Or.inl rfl | exact Or.inr rfl) (pe_lst (pa_cons (pv 0) (pa_cons pe_int (pa_cons pe_int (pa_cons pe_int pa_nil)))))) (pss_cons (ps_set (i := 2) scLaw.nd rfl (by first | exact Or.inl rfl | exact Or.inr rfl) (pe_cal CLawAlmanac (hr.mono (by decide)) (by rfl) (pa_cons (pv 1) pa_nil))) (pss_cons (ps_for PassesOwn.never rfl (pi_range1 (by rfl) (m_range z) (pa_cons pe_int pa_nil)) (pg_name (i := 3) scLaw.nd rfl (by first | exact Or.inl rfl | exact Or.inr rfl)) (pss_cons (ps_set (i := 4) scLaw.nd rfl (by first | exact Or.inl rfl | exact Or.inr rfl) (pe_cal CLawStory (hr.mono (by decide)) (by rfl) (pa_cons (pv 1) (pa_cons (pv 2) (pa_cons pe_int pa_nil))))) (pss_cons (ps_if (pt_not (pt_val (pe_cal CLawAlike (hr.mono (by decide)) (by rfl) (pa_cons (pe_cal CReadings (hr.mono (by decide)) (by rfl) (pa_cons (pv 2) (pa_cons (pv 4) pa_nil))) (pa_cons (pe_cal CLawRead (hr.mono (by decide)) (by rfl) (pa_cons (pv 2) (pa_cons (pv 4) pa_nil))) pa_nil))))) (pss_one (ps_ret pe_bl)) pss_nil) (pss_cons (ps_set (i := 5) scLaw.nd rfl (by first | exact Or.inl rfl | exact Or.inr rfl) (pe_cal CLawTaken (hr.mono (by decide)) (by rfl) (pa_cons (pv 1) (pa_cons pe_int pa_nil)))) (pss_cons (ps_set (i := 6) scLaw.nd rfl (by first | exact Or.inl rfl | exact Or.inr rfl) (pe_lst (pa_cons (pe_cal CLawShut (hr.mono (by decide)) (by rfl) (pa_cons (pv 2) (pa_cons (pv 5) pa_nil))) (pa_cons (pe_cal CLawOpen (hr.mono (by decide)) (by rfl) (pa_cons (pv 2) (pa_cons (pv 5) pa_nil))) (pa_cons (pe_cal CLawShut (hr.mono (by decide)) (by rfl) (pa_cons (pv 2) (pa_cons (pe_op op_add (pv 5) (pe_ix ix_tup (pv 2) pe_int (fun _ _ => rfl))) pa_nil))) pa_nil))))) (pss_one (ps_if (pt_not (pt_val (pe_cal CLawAlike (hr.mono (by decide)) (by rfl) (pa_cons (pe_lst (pa_cons (pe_cal CShut (hr.mono (by decide)) (by rfl) (pa_cons (pv 2) (pa_cons (pv 5) pa_nil))) (pa_cons (pe_cal COpened (hr.mono (by decide)) (by rfl) (pa_cons (pv 2) (pa_cons (pv 5) pa_nil))) (pa_cons (pe_cal CUrgent (hr.mono (by decide)) (by rfl) (pa_cons (pv 2) (pa_cons (pv 5) pa_nil))) pa_nil)))) (pa_cons (pv 6) pa_nil))))) (pss_one (ps_ret pe_bl)) pss_nil))))))) (pss_cons (ps_set (i := 7) scLaw.nd rfl (by first | exact Or.inl rfl | exact Or.inr rfl) (pe_op op_sub (pe_op op_pow pe_int pe_int) (pe_cal CLawTaken (hr.mono (by decide)) (by rfl) (pa_cons (pv 1) (pa_cons pe_int pa_nil))))) (pss_cons (ps_set (i := 8) scLaw.nd rfl (by first | exact Or.inl rfl | exact Or.inr rfl) (pe_op op_sub (pv 7) (pe_ix ix_tup (pv 2) pe_int (fun _ _ => rfl)))) (pss_one (ps_ret (pe_cmpR op_eq (pe_cal COpened (hr.mono (by decide)) (by rfl) (pa_cons (pv 2) (pa_cons (pv 7) pa_nil))) (pe_op op_add (pe_op op_fdivN (pe_op op_sub (pv 8) (pe_op op_modN (pe_callTy call_int1 (by rfl) (m_int z) (by decide +kernel) (pa_cons (pv 8) pa_nil)) (pe_ix ix_tup (pv 2) pe_int (fun _ _ => rfl)))) (pe_ix ix_tup (pv 2) pe_int (fun _ _ => rfl))) pe_int) (nomark _))))))))), ?_⟩
    refine ⟨_, rfl, (by show 4 ≤ sizeLine; decide), fun r nr => ?_⟩
    have c0 := Go.new (o := rowO sc 0 3001 0) tb nr
    have R0 : RowAt K (upd H r (rowO sc 0 3001 0)) r sc ns := ⟨⟨0, 3001, 0, upd_same, by omega⟩, c0.sqL hS⟩
    refine ⟨_, rfl, r, sc, ns, rfl, R0, c0.t1, fun a M H1 dr hM R1 g1 => ?_⟩
    have ok := dr.ok
    have hh := ok.hours
    refine ⟨3, rfl, by decide, by decide, for_range (lo := 0) (n := 3) (fun i σ H' => ∃ e3 e4 e5 e6 : Option V, σ = [some (.ref sc), some (.ref r), some (.ref a), e3, e4, e5, e6, none, none] ∧ RowAt K H' r sc ns ∧ Gw (tabs K) r H1 H')
      ⟨_, _, _, _, rfl, R1, Gw.refl g1.t1 R1.lst⟩ (fun i σ H' hi p => ?_) (fun σ H' p => ?_)⟩
    · obtain ⟨e3, e4, e5, e6, rfl, R2, g2⟩ := p
      refine ⟨_, rfl, _, rfl, r, sc, a, ns, M, 40, rfl, g2.alm hM, dr, by decide, R2, g2.t1, fun p ws ps H3 hst sok hl R3 g3 => ?_⟩
      have g13 := g2.trans g3
      have hps : ps.length ≤ 1000 := by
        obtain ⟨l, hl2⟩ : ∃ l, ws.getLast? = some l := by
          cases e : ws.getLast? with
          | none =>
            have z2 := sok.few.1
            rw [List.getLast?_eq_none_iff.mp e] at z2
            exact absurd z2 (by decide)
          | some l => exact ⟨l, rfl⟩
        have h1 := wakes_low ok sok.start sok.gaps _ _ (List.getLast?_eq_getElem? ▸ hl2)
        have h0 := wakes_nn ok sok.start sok.gaps _ _ (List.getLast?_eq_getElem? ▸ hl2)
        have := sets_few ok (sok.sets l hl2) (by omega)
        have := sok.few.2
        omega
      -- the readings
      refine ⟨_, rfl, _, rfl, a, p, M, ws, ps, rfl, g13.alm hM, ok, hst, sok, g13.t1, fun u H4 g4 e4 => ?_⟩
      refine ⟨_, rfl, _, rfl, a, p, M, ws, ps, rfl, g4.alm (g13.alm hM), ok, g4.story hst, sok.few.2, hps, g4.t1, fun u2 H5 g5 e5 => ?_⟩
      have hd : (readL M.hours ps ws).length < 1000000 := by
        unfold readL
        rw [List.length_map]
        have := sok.few.2
        omega
      rw [shown_read ok sok] at e4
      refine ⟨.ref u, .ref u2, .tuple ((readL M.hours ps ws).map PyData.int), rfl, .tup (SqT.of (g5.tup e4)) (dp_ints _), .tup (SqT.of e5) (dp_ints _), deep_ints hd, g5.t1, fun H6 g6 => ⟨_, rfl, iteNT ?_⟩⟩
      have c46 := g4.trans (g5.trans g6)
      have R6 := R3.go c46
      have g16 := g13.trans (Gw.of c46 R3.lst)
      -- an hour
      refine ⟨_, rfl, r, sc, ns, 90, rfl, by decide, R6, g16.t1, fun v H7 p7 b7 R7 g7 _ => ?_⟩
      have g17 := g16.trans g7
      have hM7 := g17.alm hM
      obtain ⟨s1, hA, hs⟩ := id hM7
      have hlate := ok.late
      refine ⟨_, rfl, _, rfl, a, M, v, rfl, hM7, ok, by omega, _, rfl, _, rfl, a, M, v, rfl, hM7, ok, by omega, _, rfl, _, rfl, _, rfl, a, _, 4, _, rfl, rfl, hA, rfl, _, _, rfl, rfl, a, M, _, rfl, hM7, ok, by have := ok.soon; omega, (by show 3 ≤ sizeLine; decide), fun d nd => ?_⟩
      have c8 := Go.new (o := .lst [.int (shutN M v), .int (openN M v), .int (shutN M (v + M.late))]) g17.t1 nd
      refine ⟨_, rfl, _, rfl, a, M, v, rfl, c8.alm hM7, ok, by omega, c8.t1, fun H9 c9 => ?_⟩
      refine ⟨_, rfl, _, rfl, a, M, v, rfl, c9.alm (c8.alm hM7), ok, by omega, c9.t1, fun H10 c10 => ?_⟩
      refine ⟨_, rfl, _, rfl, a, M, v, rfl, c10.alm (c9.alm (c8.alm hM7)), ok, by omega, c10.t1, fun H11 c11 => ?_⟩
      refine ⟨(by show 3 ≤ sizeLine; decide), fun l nl => ?_⟩
      have c12 := Go.new (o := .lst [.int (shutN M v), .int (openN M v), .int (shutN M (v + M.late))]) c11.t1 nl
      have c812 := c9.trans (c10.trans (c11.trans c12))
      refine ⟨_, rfl, .ref l, .ref d, .list ([shutN M v, openN M v, shutN M (v + M.late)].map PyData.int), rfl, .lst (SqL.of upd_same) (dp_ints [shutN M v, openN M v, shutN M (v + M.late)]), .lst (SqL.of (c812.lst upd_same)) (dp_ints [shutN M v, openN M v, shutN M (v + M.late)]), deep_intl (by show 3 < 1000000; decide), c12.t1, fun H13 c13 => ⟨_, rfl, iteNT ?_⟩⟩
      have call := c8.trans (c812.trans c13)
      exact ⟨_, _, _, _, rfl, R7.go call, g17.trans (Gw.of call R7.lst)⟩
    · obtain ⟨e3, e4, e5, e6, rfl, R2, g2⟩ := p
      refine ⟨_, _, rfl, rfl, show (0 : Int) ≤ 9 ∧ (9 : Int) ≤ 1000000 ∧ (10 : Int).natAbs < 2 ^ 64 by decide, _, rfl, r, sc, ns, 99, rfl, by decide, R2, g2.t1, fun v H3 p3 b3 R3 g3 _ => ⟨_, _, rfl, rfl, ?_⟩⟩
      have g13 := g2.trans g3
      have hM3 := g13.alm hM
      obtain ⟨s1, hA, hs⟩ := id hM3
      have e9 : (10 : Int) ^ (9 : Int).toNat = 1000000000 := by decide
      rw [e9]
      refine ⟨_, rfl, _, rfl, a, _, 1, _, rfl, rfl, hA, rfl, _, _, rfl, rfl, ?_⟩
      refine ⟨_, rfl, _, rfl, a, M, _, rfl, hM3, ok, by omega, g13.t1, fun H4 g4 => ?_⟩
      have hA4 := g4.sqT hA
      refine ⟨_, rfl, _, rfl, .inl ⟨_, rfl, _, rfl, a, _, 0, _, rfl, rfl, hA4, rfl, _, _, rfl, rfl, (show M.hours ≠ 0 by omega), _, _, rfl, rfl, _, rfl, a, _, 0, _, rfl, rfl, hA4, rfl, _, _, rfl, rfl, hoursDiv ok, _, _, rfl, rfl, rfl, ?_⟩⟩
      have key : ∀ x : Int, (x - x.fmod M.hours).fdiv M.hours = x / M.hours := fun x => by
        rw [Int.fmod_eq_emod_of_nonneg _ (by omega), Int.fdiv_eq_ediv_of_nonneg _ (by omega)]
        have e := Int.mul_ediv_add_emod x M.hours
        rw [show x - x % M.hours = M.hours * (x / M.hours) by omega]
        exact Int.mul_ediv_cancel_left _ (by omega)
      rw [key]
      show Q (.bl (decide (V.int (openN M (1000000000 - v)) = V.int ((1000000000 - v - M.first) / M.hours + 1)))) H4
      rw [show openN M (1000000000 - v) = (1000000000 - v - M.first) / M.hours + 1 from rfl, decide_eq_true rfl]
      exact q _
end
end K01

open PySem PySem.W PySem.Calls PyProof.Rows
theorem PySem.Challenge.cw_wrongclock_k01_whole_almanacs_holds : PySem.Challenge.rw_wrongclock_k01_whole_almanacs.Holds := by
  w_on; o_law
  refine HandSHeadRun.head_any (r := K01.RO) (q := view K01.RO.prog [42]) (H := K01.hkS) (ob := K01.obS) (M := 4000) (loose := K01.looseS) (d := HandSHeadRun.topDef K01.RO.prog 42) (kwd := []) K01.obS_eq
    (by kernel_rfl) (fun s => by kernel_rfl) K01.runS (by kernel_rfl) (by kernel_rfl) (by kernel_rfl) (by rfl) (by first | assumption | decide +kernel) (by decide +kernel) ⟨rfl, rfl, rfl, rfl, rfl, by decide +kernel⟩ ?hw ?hc
  case hw => w_witness2
  case hc =>
    refine LamX.walk_ofTsE (l := PySem.Challenge.rw_wrongclock_k01_whole_almanacs) (n := 63) (k := 8) (x := "script") (CX := fun _ => L2.CX0) rfl (by decide) (by kernel_rfl) ⟨rfl, by decide, by decide⟩ ?F (fun _ _ _ _ _ z => z)
    intro w mg fa h Y G hmg0
    obtain ⟨K, KX, c⟩ := Y
    have hmg : mg ("law" : PySem.Str) = some (.ref fa) := by
      have e : (HandSHeadRun.topDef K01.RO.prog 42).name = ("law" : PySem.Str) := by kernel_rfl
      rw [← e]
      exact hmg0
    have e2 := hmg.symm.trans (He.glo_ok KX G (c.t.d.fact 28 (f := .glo "law") rfl))
    cases e2
    obtain ⟨fd, F⟩ := c.t.d.def_ 28 (d := K01.dLaw) rfl
    refine ⟨K, KX, fd, K01.tfS.map (He.cT K), K01.spLaw K (K01.tabs K), fun p hp => ?_, fun p hp => ?_, fun p hp => ?_, fun s v => L2.FunD.bindsA (ps := ["script"]) F (fun _ _ _ _ _ _ us hl => match us, hl with | [_], _ => rfl) s [v] rfl, fun H a ns hl _ hT hS => ?_, fun base Kb Gb tb => ?_⟩
    · obtain ⟨q, hq, rfl⟩ := List.mem_map.mp hp
      exact c.empty q hq
    · obtain ⟨q, hq, rfl⟩ := List.mem_map.mp hp
      exact c.out q hq
    · obtain ⟨q, hq, rfl⟩ := List.mem_map.mp hp
      exact PySem.W.codeHd_of_K KX (c.hd q hq)
    · refine ⟨a, ns, rfl, hS, fun P hP => ?_, fun _ => rfl⟩
      obtain ⟨q, hq, rfl⟩ := List.mem_map.mp hP
      exact ⟨#[], hT _ (List.mem_map.mpr ⟨q, hq, rfl⟩), trivial⟩
    · exact K01.okLaw ⟨KX, G, c, fun q hq => tb _ (List.mem_map.mpr ⟨q, hq, rfl⟩)⟩ F

