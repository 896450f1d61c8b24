import PyProof.Rows.All
import Wide.All
import OpenK.AllK
import Wide.FinOn
import HandS.GenList
import HandS.AnyAll
import HandS.EndOwn
import HandS.SortInts
import HandS.Walk
import HandS.ForMost
import HandS.Style
import HandS.Conv
import HandS.Evl
import HandS.Wide
import HandS.EndTab
import HandS.More
import PySem.Challenge.RW_kraftroom_k03_choices_of_a_stage
set_option Elab.async false
set_option linter.all false
set_option maxRecDepth 100000
set_option maxHeartbeats 4000000
/-! Generator expressions over the layer: any target, tests, element; consumed by sorted, sum, any, all. -/
namespace GX
open PySem PySem.Spec PyProof.Rows L2 GenW

abbrev Pins := List (Addr × Obj)
structure Sleeps (Ss : List Addr) (s s' : Shared) : Prop where
  os : s'.os = s.os
  bare : AllBare s'.gens
  keep : ∀ b o, b ∉ Ss → s.heap.get? b = some o → s'.heap.get? b = some o
structure PinsAt (Ss : List Addr) (pl : Pins) (h : Heap) : Prop where
  ad : pl.map (·.1) = Ss
  at_ : ∀ p ∈ pl, h.get? p.1 = some p.2 ∧ ∀ v, p.2.data ≠ .cell v
structure Cons where
  Ss : List Addr
  Gh : List V → Pins → Prop
  Th : List V → V → Hp → Prop
  Qe : List V → Hp → Prop

abbrev gcx (X : Cx) (sB : Shared) (HB : Hp) (N' : List Str) (cenv : Env) (fp : List Addr) (A : Around) (pn : Pins) : Cx :=
  { X with A := A, N := N', s_0 := sB, H_0 := HB, env := cenv, outer := X.stack, stack := cenv :: X.stack, ex := fp, fn := fun _ => false, calm := true, pn := pn, xe := fun _ _ => False }

/-- the generator expression's own scope, its names N', which of them are captured (cm: their slots outside) -/
structure CapOk (N N' : List Str) (cm : List (Option Nat)) (scope sc : Scope) : Prop where
  kind : scope.kind = .function
  co : scope.isCoroutine = false
  cell : ∀ y ∈ scope.names, y.2 ≠ .cell
  dot : scope.names.lookup (".0" : Str) = some NameKind.local
  free : ∀ y ∈ scope.names, y.2 = .free → sc.names.lookup y.1 = some .cell ∨ sc.names.lookup y.1 = some .free
  len : cm.length = N'.length
  cap : ((cm.zip N').all fun p => match p.1 with | some j => (N[j]? == some p.2) && (scope.names.lookup p.2 == some .free) | none => true) = true
def captS (cm : List (Option Nat)) (σ : L2.St) : L2.St := cm.map fun o => match o with
  | some j => (σ[j]?).join
  | none => none
theorem captS_some {cm : List (Option Nat)} {σ : L2.St} {i : Nat} {v : V} (h : (captS cm σ)[i]? = some (some v)) : ∃ j, cm[i]? = some (some j) ∧ σ[j]? = some (some v) := by
  unfold captS at h
  rw [List.getElem?_map] at h
  cases hc : cm[i]? with
  | none => rw [hc] at h; cases h
  | some o =>
    rw [hc] at h
    cases o with
    | none => cases h
    | some j =>
      refine ⟨j, rfl, ?_⟩
      have h' : (σ[j]?).join = some v := Option.some.inj h
      cases hs : σ[j]? with
      | none => rw [hs] at h'; cases h'
      | some w => rw [hs] at h'; exact congrArg some h'
theorem CapOk.capt {N N' : List Str} {cm : List (Option Nat)} {scope sc : Scope} (ok : CapOk N N' cm scope sc) {i j : Nat} {y : Str} (h1 : cm[i]? = some (some j)) (h2 : N'[i]? = some y) : N[j]? = some y ∧ scope.names.lookup y = some .free := by
  have h := List.all_eq_true.mp ok.cap (some j, y) (List.mem_of_getElem? (i := i) (by rw [List.getElem?_zip_eq_some]; exact ⟨h1, h2⟩))
  simp only [Bool.and_eq_true, beq_iff_eq] at h
  exact h

theorem inv_gens {G : Cx} {pl : Pins} {σ : L2.St} {H : Hp} {s : Shared} (I : Inv G pl σ H s) {g : Nat} {x : GenState} (hx : x.bare = true) : Inv G pl σ H (s.setGen g x) :=
  ⟨I.ok, I.os, allBare_setGen I.bare hx, I.base, I.loc, I.cell, I.free, I.freeC, I.pin, I.hok, I.len⟩

theorem woken {G : Cx} {Ss : List Addr} {pl pl' : Pins} {σ : L2.St} {H : Hp} {s s' : Shared} (hpn : ∀ p ∈ G.pn, p.1 ∉ Ss)
    (hap : ∀ b ∈ Ss, G.s_0.heap.objs.size ≤ b ∧ b ≠ G.env.locals ∧ ∀ x c, G.env.cells.lookup x = some c → c ≠ b) (hp : PinsAt Ss pl s.heap) (I : Inv G pl σ H s) (z : Sleeps Ss s s') (hp' : PinsAt Ss pl' s'.heap) :
    Inv G pl' σ H s' := by
  have fr : ∀ b ∈ Ss, H b = none ∧ b ≠ G.env.locals ∧ b ∉ G.fs := fun b hb => by
    rw [← hp.ad] at hb
    obtain ⟨p, hm, e⟩ := List.mem_map.mp hb
    obtain ⟨_, h2, h3, h4, _⟩ := I.pin p (List.mem_append_right _ hm)
    rw [← e]
    exact ⟨h2, h3, h4⟩
  have I0 : Inv G [] σ H s := I.pins_of fun p hp => absurd hp (by simp)
  have nt : ∀ b u, H b = some u → b ∉ Ss := fun b u q hb => by rw [(fr b hb).1] at q; cases q
  obtain ⟨z1, z2, z3⟩ := z
  obtain ⟨hh, g, d, t, o⟩ := s'
  have ho : o = s.os := z1
  subst ho
  have J : Inv G [] σ H { s with heap := hh, gens := g, drawn := d, toks := t } := by
    refine I0.step (g' := g) (t' := t) (d' := d) (ch := Ss) (fun b hb => ?_)
      (fun b ob _ _ hc q _ => z3 b ob hc q) (fun b ob _ _ hc q _ => ⟨ob.slots, z3 b ob hc q⟩) (fun _ _ _ _ n => n) (fun b ob hc q => ⟨ob, z3 b ob hc q⟩)
      (fun _ _ q => q) (fun _ _ _ q => q) (fun b ps q => ⟨#[], by rw [q]; simp⟩) (fun m hm => ?_) (fun b u q => ?_) z2
    · refine ⟨.inr (hap b hb).1, (hap b hb).2.1, (hap b hb).2.2, fun p hp => ?_⟩
      rcases List.mem_append.mp hp with hp | hp
      · exact fun e => hpn p hp (by rw [e]; exact hb)
      · cases hp
    · obtain ⟨ob, es, ep, ho, r⟩ := hm
      exact ⟨ob, es, ep, z3 _ ob (fun hm => (fr _ hm).2.1 rfl) ho, r⟩
    · refine (I0.hok b u q).stay (fun c v hc y => z3 c v ?_ y) (fun _ y => y) fun _ _ y => y
      rcases hc with y | y
      · rw [y]; exact nt b u q
      · exact nt c _ y
  refine J.pins_of fun p hp => ?_
  have hS : p.1 ∈ Ss := by rw [← hp'.ad]; exact List.mem_map.mpr ⟨p, hp, rfl⟩
  exact ⟨(hp'.at_ p hp).1, (fr _ hS).1, (fr _ hS).2.1, (fr _ hS).2.2, (hp'.at_ p hp).2⟩

def GY (G : Cx) (C : Cons) (σ0 : L2.St) : Protocol := fun n s₀ v s kap =>
  ∃ ys x pl H, n + 1 + ys.length = sizeLine ∧ RelV x v ∧ PinsAt C.Ss pl s.heap ∧ C.Gh ys pl ∧ Inv G pl σ0 H s ∧ C.Th ys x H ∧
    (∀ b ∈ C.Ss, s.heap.get? b = s₀.heap.get? b) ∧ ∀ s' pl', Sleeps C.Ss s s' → PinsAt C.Ss pl' s'.heap → C.Gh (ys ++ [x]) pl' → kap (.send .none) s'
def GP (G : Cx) (C : Cons) (σ0 : L2.St) (s₀ s : Shared) : Prop := ∃ ys pl H, ys.length ≤ sizeLine ∧ PinsAt C.Ss pl s.heap ∧ C.Gh ys pl ∧ Inv G pl σ0 H s ∧ C.Qe ys H ∧ ∀ b ∈ C.Ss, s.heap.get? b = s₀.heap.get? b
def GR (G : Cx) (C : Cons) (σ0 : L2.St) : GenEnd := fun n s₀ r s => r = .ok .next ∧ GP G C σ0 s₀ s
theorem PinsAt.same {Ss : List Addr} {pl : Pins} {h h' : Heap} (a : PinsAt Ss pl h) (b : PinsAt Ss pl h') : ∀ x ∈ Ss, h'.get? x = h.get? x := fun x hx => by
  rw [← a.ad] at hx
  obtain ⟨p, hp, e⟩ := List.mem_map.mp hx
  rw [← e, (a.at_ p hp).1, (b.at_ p hp).1]

theorem over_gl {A : Around} {elt : Expr} {gens : List Comprehension} {scope : Scope} {pos : Pos} {it acc : Value} {env : Env} : A.over (.compLoop (.GeneratorExp elt gens scope pos) 0 it acc env) [] = A.deeper env := by
  first
    | rfl
    | (obtain ⟨hd, d, fr, gs, u⟩ := A; simp [Around.over, Around.deeper, marksOver, frameCount, unitsOf, envsOf, guardsOf, pushEnvs, pushGuards, Code.envs, Code.env?, Code.isFrame, Code.guards, Code.isGuard, Code.weight, Code.frames, Code.isCreation, Code.isCaller, Code.cUnits])

/-- what each turn is to bring -/
def Turns (J : It) (g : TG) (tt : TT) (te : TE) (σ0 : L2.St) (own : List Nat) (Th : List V → V → Hp → Prop) (Qe : List V → Hp → Prop) (W : Nat → Nat → List V → Hp → Prop) : Prop :=
  ∀ i m ys H, W i m ys H → (J.stop i H ∧ Qe ys H) ∨ (J.go i H ∧ ∃ Nx : List V → Hp → Prop, (∀ ys' H', Nx ys' H' → ∃ m', m' < m ∧ W (i + 1) m' ys' H') ∧
    ∀ x H', J.yld i H x H' → g x σ0 H' fun σ2 H2 => wipe σ2 own = σ0 ∧ tt σ2 H2 fun b H3 =>
      if b = true then te σ2 H3 fun y H4 => ys.length < sizeLine ∧ Th ys y H4 ∧ Nx (ys ++ [y]) H4 else Nx ys H3)

section
variable {G : Cx} {A : Around} {C : Cons} {cenv : Env} {tg elt iter : Expr} {ifs : List Expr} {scope : Scope} {pos : Pos} {J : It} {fp : List Addr} {it : Addr} {tn : Nat → Heap → Prop} {g : TG} {tt : TT} {te : TE} {σ0 : L2.St} {own : List Nat}
  {W : Nat → Nat → List V → Hp → Prop}
theorem seg_loop (hA : A.deeper cenv = G.A) (hE : G.env = cenv) (hcalm : G.calm = true) (hxe : G.xe = fun _ _ => False) (hco : cenv.scope.isCoroutine = false)
    (T : Turn G.prog G.w G.K tg J fp it tn) (hg : PG G tg g) (ht : PTs G ifs tt) (he : PE G elt te)
    (hpn : ∀ p ∈ G.pn, p.1 ∉ C.Ss) (hap : ∀ b ∈ C.Ss, G.s_0.heap.objs.size ≤ b ∧ b ≠ G.env.locals ∧ ∀ x c, G.env.cells.lookup x = some c → c ≠ b)
    (hfp : ∀ b ∈ fp, b ≠ G.env.locals ∧ b ∉ G.fs ∧ (b ∈ G.ex ∨ G.s_0.heap.objs.size ≤ b) ∧ (∀ x c, G.env.cells.lookup x = some c → c ≠ b) ∧ (∀ p ∈ G.pn, p.1 ≠ b) ∧ b ∉ C.Ss)
    (tr : Turns J g tt te σ0 own C.Th C.Qe W) :
    ∀ (m i n : Nat) (ys : List V) (s₀ s : Shared) (H : Hp) (pl : Pins), n + ys.length = sizeLine → W i m ys H → PinsAt C.Ss pl s.heap → C.Gh ys pl → Inv G pl σ0 H s → tn i s.heap → (∀ b ∈ fp, H b = none) → (∀ b ∈ C.Ss, s.heap.get? b = s₀.heap.get? b) →
      Seg (model G.prog G.w) A (GR G C σ0) (GY G C σ0) n s₀ (.compLoop (.GeneratorExp elt [⟨tg, iter, ifs, 0⟩] scope pos) 0 (.ref it) .none cenv)
        ((model G.prog G.w).den (.compLoop (.GeneratorExp elt [⟨tg, iter, ifs, 0⟩] scope pos) 0 (.ref it) .none cenv)) [] s := by
  subst hE
  intro m
  induction m using Nat.strongRecOn with
  | ind m ih =>
    intro i n ys s₀ s H pl hn w hp hgh I hst hfr hs0
    have hov : A.over (.compLoop (.GeneratorExp elt [⟨tg, iter, ifs, 0⟩] scope pos) 0 (.ref it) .none G.env) [] = G.A := over_gl.trans hA
    have stat : ∀ {pl' : Pins} {H' : Hp}, (pl'.map (·.1) = C.Ss) → (∀ b ∈ fp, H' b = none) → ∀ b ∈ fp, FpOk G pl' H' b := fun {pl' H'} had hn b hb => by
      obtain ⟨h1, h2, h3, h4, h5, h6⟩ := hfp b hb
      refine ⟨hn b hb, h1, h2, h3, h4, fun p hp => ?_⟩
      rcases List.mem_append.mp hp with hp | hp
      · exact h5 p hp
      · intro e
        exact h6 (by rw [← had, ← e]; exact List.mem_map.mpr ⟨p, hp, rfl⟩)
    show Seg _ A _ _ _ s₀ _ ((compTurn (.GeneratorExp elt [⟨tg, iter, ifs, 0⟩] scope pos) 0 (.ref it) .none G.env).onRaise (leaving G.env)) [] s
    rw [compTurn_gen, Sem.onRaise_eq_wrap]
    refine seg_bind_wrap (wpAny_standAt ?_)
    rcases tr i m ys H w with ⟨stop, qn⟩ | ⟨go, Nx, hN, step⟩
    · refine seg_bind_wrap ?_
      rw [hov]
      refine thn (T.done G rfl rfl rfl hcalm i pl s σ0 H _ I (stat hp.ad hfr) hst stop) fun r s4 ⟨hr, I4⟩ => ?_
      subst hr
      have hp4 : PinsAt C.Ss pl s4.heap := ⟨hp.ad, fun p hm => ⟨(I4.pin p (List.mem_append_right _ hm)).1, (hp.at_ p hm).2⟩⟩
      exact seg_end (.ok .next) ⟨rfl, ys, pl, H, by omega, hp4, hgh, I4, qn, fun b hb => (hp.same hp4 b hb).trans (hs0 b hb)⟩
    · refine seg_bind_wrap ?_
      rw [hov]
      refine thn (T.item G rfl rfl rfl hcalm i pl s σ0 H _ I (stat hp.ad hfr) hst go) fun r s4 ⟨u, hr, h4⟩ => ?_
      subst hr
      refine seg_bind_wrap ?_
      rw [hov]
      refine thn h4 fun _ s5 ⟨x, H5, I5, r5, y5, st5, fr5⟩ => ?_
      have I5' := I5.pinned (stat hp.ad fr5) (T.obj _ _ st5)
      refine seg_bind_wrap ?_
      rw [hov]
      refine wpAny_mono (hg.run _ s5 σ0 H5 x u _ I5' r5 (step x H5 y5)) (fun _ s6 ⟨σ6, H6, I6, hw6, q6⟩ => ?_) fun e s' hx => absurd hx (by rw [hxe]; exact fun z => z)
      refine seg_bind_wrap ?_
      rw [hov]
      refine wpAny_mono (ht.run _ s6 σ6 H6 _ I6 q6) (fun ok s7 ⟨H7, I7, q7⟩ => ?_) fun e s' hx => absurd hx (by rw [hxe]; exact fun z => z)
      have back : ∀ {s8 : Shared} {H8 : Hp}, Inv G (pl ++ pinsAt fp s5.heap) σ6 H8 s8 → Inv G pl σ0 H8 s8 ∧ PinsAt C.Ss pl s8.heap ∧ (∀ b ∈ fp, H8 b = none) ∧ ∀ b ∈ fp, ∀ o, s5.heap.get? b = some o → s8.heap.get? b = some o := fun {s8 H8} I8 => by
        refine ⟨(I8.unpinned).weak (by rw [← hw6, wipe_length]) fun j v hv => ?_, ⟨hp.ad, fun p hm => ?_⟩, fun b hb => ?_, fun b hb o e => ?_⟩
        · rw [← hw6] at hv
          exact (wipe_some hv).1
        · exact ⟨(I8.pin p (List.mem_append_right _ (List.mem_append_left _ hm))).1, (hp.at_ p hm).2⟩
        · obtain ⟨o, e, d⟩ := T.obj _ _ st5 b hb
          exact (I8.pin (b, o) (List.mem_append_right _ (List.mem_append_right _ (mem_pinsAt hb e)))).2.1
        · exact (I8.pin (b, o) (List.mem_append_right _ (List.mem_append_right _ (mem_pinsAt hb e)))).1
      cases ok with
      | false =>
        rw [if_neg Bool.false_ne_true] at q7
        simp only [Bool.false_eq_true, if_false]
        obtain ⟨I8, hp8, hf8, hk8⟩ := back I7
        obtain ⟨m', hm', w'⟩ := hN _ _ q7
        exact seg_again rfl (ih m' hm' (i + 1) n ys s₀ s7 H7 pl hn w' hp8 hgh I8 (T.keep _ _ _ st5 hk8) hf8 fun b hb => (hp.same hp8 b hb).trans (hs0 b hb))
      | true =>
        rw [if_pos rfl] at q7
        simp only [if_true]
        have hy : ∀ v, yieldOut G.env v = yieldValue v := fun v => by simp only [yieldOut, hco, Bool.false_eq_true, if_false]
        simp only [hy]
        rw [Sem.bind_eq_wrap', Sem.bind_eq_wrap', Sem.wrap_wrap, Sem.wrap_wrap]
        refine seg_wrap ?_
        rw [hov]
        refine wpAny_mono (he.run _ s7 σ6 H7 _ I7 q7) (fun v s8 ⟨y, H8, I8', r8, hlt, hth, hnx⟩ => ?_) fun e s' hx => absurd hx (by rw [hxe]; exact fun z => z)
        obtain ⟨n, rfl⟩ : ∃ k, n = k + 1 := ⟨n - 1, by omega⟩
        obtain ⟨I8, hp8, hf8, hk8⟩ := back I8'
        obtain ⟨m', hm', w'⟩ := hN _ _ hnx
        refine seg_at (seg_yield rfl rfl rfl ⟨ys, y, pl, H8, hn, r8, hp8, hgh, I8, hth, fun b hb => (hp.same hp8 b hb).trans (hs0 b hb), fun s'' pl' hsl hpl' hgh' => ?_⟩)
        refine seg_again rfl (ih m' hm' (i + 1) n (ys ++ [y]) s'' s'' H8 pl' (by rw [List.length_append, List.length_singleton]; omega) w' hpl' hgh' (woken hpn hap hp8 I8 hsl hpl')
          (T.keep _ _ _ st5 fun b hb o e => hsl.keep b o (hfp b hb).2.2.2.2.2 (hk8 b hb o e)) hf8 fun _ _ => rfl)

theorem seg_start (hA : A.deeper cenv = G.A) (hE : G.env = cenv) (hcalm : G.calm = true) (hxe : G.xe = fun _ _ => False) (hco : cenv.scope.isCoroutine = false)
    (T : Turn G.prog G.w G.K tg J fp it tn) (hg : PG G tg g) (ht : PTs G ifs tt) (he : PE G elt te)
    (hpn : ∀ p ∈ G.pn, p.1 ∉ C.Ss) (hap : ∀ b ∈ C.Ss, G.s_0.heap.objs.size ≤ b ∧ b ≠ G.env.locals ∧ ∀ x c, G.env.cells.lookup x = some c → c ≠ b)
    (hfp : ∀ b ∈ fp, b ≠ G.env.locals ∧ b ∉ G.fs ∧ (b ∈ G.ex ∨ G.s_0.heap.objs.size ≤ b) ∧ (∀ x c, G.env.cells.lookup x = some c → c ≠ b) ∧ (∀ p ∈ G.pn, p.1 ≠ b) ∧ b ∉ C.Ss)
    (tr : Turns J g tt te σ0 own C.Th C.Qe W) {m : Nat} {s₀ s : Shared} {H : Hp} {pl : Pins} (w : W 0 m [] H) (hp : PinsAt C.Ss pl s.heap) (hgh : C.Gh [] pl) (I : Inv G pl σ0 H s) (hst : tn 0 s.heap) (hfr : ∀ b ∈ fp, H b = none) (hs0 : ∀ b ∈ C.Ss, s.heap.get? b = s₀.heap.get? b) :
    Seg (model G.prog G.w) A (GR G C σ0) (GY G C σ0) sizeLine s₀ (.compStart (.GeneratorExp elt [⟨tg, iter, ifs, 0⟩] scope pos) 0 (.ref it) .none cenv)
      ((model G.prog G.w).den (.compStart (.GeneratorExp elt [⟨tg, iter, ifs, 0⟩] scope pos) 0 (.ref it) .none cenv)) [] s := by
  have loop := seg_loop (iter := iter) (scope := scope) (pos := pos) hA hE hcalm hxe hco T hg ht he hpn hap hfp tr m 0 sizeLine [] s₀ s H pl rfl w hp hgh I hst hfr hs0
  show Seg _ A _ _ _ s₀ _ ((compStart (.GeneratorExp elt [⟨tg, iter, ifs, 0⟩] scope pos) 0 (.ref it) .none cenv).onRaise (leaving cenv)) [] s
  unfold compStart
  rw [Sem.onRaise_eq_wrap]
  show Seg _ A _ _ _ s₀ _ ((ask >>= _).wrap _ _ _ _) [] s
  refine seg_bind_wrap (wpAny_askSetting ?_)
  split
  · exact seg_again rfl loop
  · first
      | exact seg_bind_wrap (wpAny_rule (seg_bind_wrap (wpAny_standAt (seg_bind_wrap (T.self _ 0 s _ _ hst (seg_again rfl loop))))))
      | (refine seg_bind_wrap (wpAny_rule ?_); show Seg _ A _ _ _ s₀ _ ((standAt iter.pos >>= _).wrap _ _ _ _) [] s; exact seg_bind_wrap (wpAny_standAt (seg_bind_wrap (T.self _ 0 s _ _ hst (seg_again rfl loop)))))
end
end GX
set_option Elab.async false
set_option linter.all false
set_option maxRecDepth 100000
set_option maxHeartbeats 4000000
namespace GX
open PySem PySem.Spec PyProof.Rows L2 GenW

section
variable {X : Cx} {pins : Pins} {σ : L2.St} {H : Hp} {sB : Shared} {N' : List Str} {cm : List (Option Nat)} {scope : Scope}
theorem gen_start (I : Inv X pins σ H sB) (ok : CapOk X.N N' cm scope X.env.scope) {code : Value} {fp : List Addr} (hfp : ∀ b ∈ fp, FpOk X pins H b ∧ b < sB.heap.objs.size)
    {A : Around} (hA : A.handled = none) (hfr : A.frames = some (genEnv scope (cloFrom X.env.cells scope.names []) sB.heap.objs.size code builtinsNs X.env :: X.stack))
    {s2 : Shared} {m0 : Str → Option Value} (hn : s2.heap.Ns sB.heap.objs.size m0) (hk : ∀ b o, sB.heap.get? b = some o → s2.heap.get? b = some o) (hos : s2.os = sB.os) (hb : AllBare s2.gens) {pn pl : Pins}
    (hp : ∀ p ∈ pn ++ pl, s2.heap.get? p.1 = some p.2 ∧ sB.heap.objs.size < p.1 ∧ ∀ v, p.2.data ≠ .cell v) :
    Inv (gcx X sB H N' (genEnv scope (cloFrom X.env.cells scope.names []) sB.heap.objs.size code builtinsNs X.env) fp A pn) pl (captS cm σ) H s2 := by
  have hfree : ∀ y ∈ scope.names, y.2 = .free → ∃ c, X.env.cells.lookup y.1 = some c := fun y hy e => by
    rcases ok.free y hy e with k | k
    · exact I.ok.has _ (.inl k)
    · exact I.ok.has _ (.inr k)
  have cm1 : ∀ {y c}, (cloFrom X.env.cells scope.names []).lookup y = some c → X.env.cells.lookup y = some c ∧ c < sB.heap.objs.size := fun {y c} hm => by
    rcases cloFrom_mem (PySem.mem_of_lookup hm) with hm | ⟨h1, rfl⟩
    · cases hm
    · obtain ⟨c, hc⟩ := hfree _ h1 rfl
      rw [hc]
      obtain ⟨w, z⟩ := I.cell _ _ hc
      exact ⟨rfl, z.lt⟩
  have look : ∀ {y}, scope.names.lookup y = some .free → ∃ c, (cloFrom X.env.cells scope.names []).lookup y = some c ∧ X.env.cells.lookup y = some c := fun {y} hl => by
    have hy : (y, NameKind.free) ∈ scope.names := PySem.mem_of_lookup hl
    obtain ⟨c', e'⟩ := mem_lookup (cloFrom_has (cells := X.env.cells) (acc := []) hy)
    exact ⟨c', e', (cm1 e').1⟩
  have nstk : ∀ b, sB.heap.objs.size ≤ b → b ∉ frs X.stack := fun b hb z => by
    rcases List.mem_cons.mp (I.stkSub b z) with z | z
    · exact absurd (Nat.lt_of_lt_of_le I.lt (by rw [← z]; exact hb)) (Nat.lt_irrefl _)
    · exact I.nofs hb z
  have okB : (gcx X sB H N' (genEnv scope (cloFrom X.env.cells scope.names []) sB.heap.objs.size code builtinsNs X.env) fp A pn).Ok := by
    refine ⟨I.ok.mod, ok.kind, I.ok.glob, rfl, Nat.le_refl _, fun y z c e1 e2 => I.ok.inj y z c (cm1 e1).1 (cm1 e2).1, fun y hy => ?_, fun y c z e => ?_, fun _ => hA, hfr, .inr ⟨rfl, rfl⟩, fun b hb => ⟨?_, fun y c e z => ?_⟩, I.bs, Nat.le_trans I.ok.bsz I.sz, fun b o e hb => ?_, fun b hb z => ?_, I.stack, I.stkFree⟩
    · rcases hy with hy | hy
      · exact absurd rfl (ok.cell _ (PySem.mem_of_lookup hy))
      · obtain ⟨c, h1, _⟩ := look hy
        exact ⟨c, h1⟩
    · exact absurd (show false = true from z) Bool.false_ne_true
    · exact Nat.ne_of_lt (hfp b hb).2
    · exact (hfp b hb).1.2.2.2.2.1 y c (cm1 e).1 z
    · rcases (hfp b hb).1.2.2.2.1 with z | z
      · exact I.ok.noex b o e z
      · exact absurd (Nat.lt_of_lt_of_le (Heap.lt_size e) (Nat.le_trans I.ok.bsz z)) (Nat.lt_irrefl _)
    · rcases List.mem_cons.mp (I.stkSub b z) with z | z
      · exact (hfp b hb).1.2.1 z
      · exact (hfp b hb).1.2.2.1 z
  refine ⟨okB, hos, hb, Un.kept hk, ⟨m0, hn, fun i y av e1 e2 e3 => ?_⟩, fun y c e => ?_, I.hok.fresh (Nat.le_refl _), fun y c e => I.freeC y c (cm1 e).1, fun p hm => ?_, I.hok.kept hk, by
    show (captS cm σ).length = N'.length
    unfold captS
    rw [List.length_map, ok.len]⟩
  · obtain ⟨j, hj, hs⟩ := captS_some e2
    obtain ⟨hy, hf⟩ := ok.capt hj e1
    obtain ⟨m, hn2, hl⟩ := I.loc
    have hvis : Vis X.env.scope y := (ok.free _ (PySem.mem_of_lookup hf) rfl).elim (fun k => .inr (.inl k)) (fun k => .inr (.inr k))
    obtain ⟨w, r, q⟩ := hl j y av hy hs hvis
    refine ⟨w, r, .inr ⟨.inr hf, ?_⟩⟩
    obtain ⟨c, h1, h2⟩ := look hf
    rcases q with ⟨k, _⟩ | ⟨_, c', e', z⟩
    · have k : X.env.scope.names.lookup y = some .local := k
      rcases ok.free _ (PySem.mem_of_lookup hf) rfl with k' | k' <;> rw [show X.env.scope.names.lookup y = _ from k'] at k <;> cases k
    · rw [h2] at e'; cases e'
      exact ⟨c, h1, z.keeps hk⟩
  · obtain ⟨w, z⟩ := I.cell y c (cm1 e).1
    exact ⟨w, z.keeps hk⟩
  · obtain ⟨h1, h2, h3⟩ := hp p hm
    exact ⟨h1, I.hok.fresh (Nat.le_of_lt h2), Nat.ne_of_gt h2, nstk _ (Nat.le_of_lt h2), h3⟩
end

/-- a code object's table, whatever it holds -/
def TabX (P : Addr) : HO := .ext fun h => ∃ ps : Array Value, h.get? P = some { cls := .none, data := .fields ps } ∧ TriplesOk ps.toList
theorem tabx_ok {prog : Program} {w : World} {H : Hp} {h : Heap} {P : Addr} {ps : Array Value} (e : h.get? P = some { cls := .none, data := .fields ps }) (t : TriplesOk ps.toList) : ObjOk prog w H h P (TabX P) :=
  ⟨⟨ps, e, t⟩, ⟨_, e⟩, fun h1 h2 ⟨qs, e1, t1⟩ k => ⟨qs, k _ e1, t1⟩⟩
theorem upd_id {H : Hp} {a : Addr} {o : HO} (h : H a = some o) : upd H a o = H := by
  funext b
  by_cases e : b = a
  · rw [e, upd_same, h]
  · rw [upd_ne e]
/-- a generator that has not begun -/
def RdG (X : Cx) (pins : Pins) (σ : L2.St) (k : Nat) (Th : List V → V → Hp → Prop) (Qe : List V → Hp → Prop) (u : Value) (s' : Shared) : Prop :=
  ∃ (a : Addr) (g : Nat) (c : Code) (go : Obj) (sB : Shared) (HB : Hp) (N' : List Str) (cenv : Env) (fp : List Addr) (σ0 : L2.St),
    u = .ref a ∧ Inv X pins σ HB sB ∧ ExOk X pins fp ∧ sB.heap.objs.size < a ∧ a < s'.heap.objs.size ∧ (∀ h : Heap, h.get? a = some go → h.IsGen a g) ∧ s'.heap.get? a = some go ∧ s'.gens[g]? = some (.fresh c) ∧ s'.os = sB.os ∧ AllBare s'.gens ∧ (∀ b o, sB.heap.get? b = some o → s'.heap.get? b = some o) ∧
    ∀ (A : Around) (s2 : Shared) (Ss : List Addr) (Gh : List V → Pins → Prop) (pl : Pins), Room (k + 1) A → A.frames = some X.stack → (∀ b ∈ Ss, s'.heap.objs.size ≤ b) → (∀ b o, s'.heap.get? b = some o → s2.heap.get? b = some o) → s2.os = sB.os → AllBare s2.gens → PinsAt Ss pl s2.heap → Gh [] pl →
      Seg (model X.prog X.w) A (GR (gcx X sB HB N' cenv fp (A.deeper cenv) [(a, go)]) ⟨Ss, Gh, Th, Qe⟩ σ0) (GY (gcx X sB HB N' cenv fp (A.deeper cenv) [(a, go)]) ⟨Ss, Gh, Th, Qe⟩ σ0) sizeLine s2 c ((model X.prog X.w).den c) [] s2
abbrev TGx := L2.St → Hp → (List V → V → Hp → Prop) → (List V → Hp → Prop) → Prop
structure PGx (X : Cx) (k : Nat) (e : Expr) (t : TGx) : Prop where
  run : ∀ (pins : Pins) (s : Shared) (σ : L2.St) (H : Hp) (Th : List V → V → Hp → Prop) (Qe : List V → Hp → Prop), Inv X pins σ H s → t σ H Th Qe → wpAny (model X.prog X.w) X.A (eval e X.env) (RdG X pins σ k Th Qe) X.xe s
/-- the reading of a generator expression -/
def tGx (P : Addr) (wi : TI) (g : TG) (tt : TT) (te : TE) (cm : List (Option Nat)) (own : List Nat) : TGx := fun σ H Th Qe => wi σ H fun J H1 => H1 P = some (TabX P) ∧
  ∃ W : Nat → Nat → List V → Hp → Prop, (∃ m, W 0 m [] H1) ∧ Turns J g tt te (captS cm σ) own Th Qe W

theorem pgx_gen {X : Cx} {c P : Addr} {elt iter tg : Expr} {ifs : List Expr} {scope : Scope} {gpos : Pos} {N' : List Str} {cm : List (Option Nat)} {own : List Nat} {wi : TI} {g : TG} {tt : TT} {te : TE} {k k0 : Nat}
    (hr : Room k0 X.A) (TB : GxR.TabB X.base X.mg c P) (hcode : X.env.code = .ref c) (ok : CapOk X.N N' cm scope X.env.scope) (hi : PI X tg iter wi)
    (hg : ∀ (sB : Shared) (HB : Hp) (cl : List (Str × Addr)) (L : Addr) (code : Value) (fp : List Addr) (A : Around) (pn : Pins), Room k A → PG (gcx X sB HB N' (genEnv scope cl L code builtinsNs X.env) fp A pn) tg g)
    (ht : ∀ (sB : Shared) (HB : Hp) (cl : List (Str × Addr)) (L : Addr) (code : Value) (fp : List Addr) (A : Around) (pn : Pins), Room k A → PTs (gcx X sB HB N' (genEnv scope cl L code builtinsNs X.env) fp A pn) ifs tt)
    (he : ∀ (sB : Shared) (HB : Hp) (cl : List (Str × Addr)) (L : Addr) (code : Value) (fp : List Addr) (A : Around) (pn : Pins), Room k A → PE (gcx X sB HB N' (genEnv scope cl L code builtinsNs X.env) fp A pn) elt te)
    (hs : ∀ v, genFold iter X.env v = pure v := by intro _; rfl) : PGx X k (.GeneratorExp elt [⟨tg, iter, ifs, 0⟩] scope gpos) (tGx P wi g tt te cm own) := by
  refine ⟨fun pins s σ H Th Qe I h => ?_⟩
  have hfree : ∀ y ∈ scope.names, y.2 = .free → ∃ c, X.env.cells.lookup y.1 = some c := fun y hy e => by
    rcases ok.free y hy e with k | k
    · exact I.ok.has _ (.inl k)
    · exact I.ok.has _ (.inr k)
  refine wpAny_GeneratorExp_make ok.co (closure_ok hfree) ok.cell ok.dot ok.kind (by have := hr.dp; omega) ?_ hs
  refine thn (hi.run pins s σ H _ I h) fun xv s1 h1 => thn h1 fun itv s2 h2 => ?_
  obtain ⟨it, fp, tn, J, H2, rfl, I2, T, st2, f2, hP, W, ⟨m0, w0⟩, tr⟩ := h2
  obtain ⟨⟨ps, hPs, ht3⟩, _, _⟩ := I2.hok P _ hP
  have cd : PySem.W.CodeHd s2.heap c P := TB.code.keeps fun b u e => I2.bk b u e
  have fpP : ∀ b ∈ fp, b ≠ P := fun b hb z => by
    have q := (f2 b hb).1
    rw [z, hP] at q; cases q
  have fplt : ∀ b ∈ fp, b < s2.heap.objs.size := fun b hb => let ⟨o, e, _⟩ := T.obj _ _ st2 b hb; Heap.lt_size e
  have cont : ∀ (code : Value) (h3 : Heap) (tk : Nat) (ps' : Array Value), Heap.ExtBut P s2.heap h3 → s2.heap.objs.size ≤ h3.objs.size → h3.get? P = some { cls := .none, data := .fields ps' } → (∃ more, ps' = ps ++ more) → TriplesOk ps'.toList →
      wpAny (model X.prog X.w) X.A (builtinsFor X.env.globals X.env.builtins) (fun bi s₄ =>
        ∀ h', h'.Ns s₄.heap.objs.size (fun y => if y = ".0" then some (.ref it) else none) → Heap.SameBut s₄.heap.objs.size (s₄.heap.push { cls := .type "frame", data := .dict #[] }) h' →
          RdG X pins σ k Th Qe (.ref h'.objs.size) { s₄ with
            gens := s₄.gens.push (.fresh (.compStart (.GeneratorExp elt [⟨tg, iter, ifs, 0⟩] scope gpos) 0 (.ref it) .none (genEnv scope (cloFrom X.env.cells scope.names []) s₄.heap.objs.size code bi X.env))),
            toks := s₄.toks + 1 + 1 + 1,
            heap := h'.push { cls := .type "generator", data := .fields #[.int s₄.gens.size 0, .str "<genexpr>" (s₄.toks + 1), .str (X.env.qual ++ "<genexpr>") (s₄.toks + 1 + 1)] } }) X.xe { s2 with heap := h3, toks := tk } := by
    intro code h3 tk ps' hx hsz hP3 hmore ht4
    obtain ⟨bm, ob, e1, e2, e3, e4, e5, e6, e7, e8⟩ := TB.bm
    refine wpAny_builtinsFor (m := X.mg) (by rw [I2.ok.glob]; exact (I2.mod.glob.keeps I2.bk).extBut hx TB.gP) e1 e2 (hx _ _ e4 (I2.bk _ _ e5)) e6 e7 e8 ?_
    intro h' hn' hs'
    obtain ⟨more, em⟩ := hmore
    subst em
    have J3 : Inv X pins σ H2 { s2 with heap := h3, toks := tk } := by
      have q := I2.write (x := P) (e := P) (o := TabX P) (h' := h3) (t' := tk) (by rw [hP]; trivial) (.inl rfl) (fun b u hb hu => hx b u hb hu) ⟨_, hP3⟩ (tabx_ok hP3 ht4)
      rw [upd_id hP] at q
      exact q
    generalize hgo : ({ cls := .type "generator", data := .fields #[.int s2.gens.size 0, .str "<genexpr>" (tk + 1), .str (X.env.qual ++ "<genexpr>") (tk + 1 + 1)] } : Obj) = go
    have hsz' : h'.objs.size = h3.objs.size + 1 := by
      have q := hs'.1
      rw [q, Heap.size_push]
    have keep' : ∀ b o, h3.get? b = some o → h'.get? b = some o := fun b o e => hs'.extBut b o (Nat.ne_of_lt (Heap.lt_size e)) (Heap.get?_push_of_some _ e)
    have goat : (h'.push go).get? h'.objs.size = some go := by
      subst hgo
      exact Heap.get?_push_size _ rfl
    have fp3 := f2
    refine ⟨h'.objs.size, s2.gens.size, _, go, { s2 with heap := h3, toks := tk }, H2, N', genEnv scope (cloFrom X.env.cells scope.names []) h3.objs.size code builtinsNs X.env, fp, captS cm σ, rfl, J3, fun b hb => ⟨(f2 b hb).2.2.2.1, (f2 b hb).2.1, (f2 b hb).2.2.2.2.1, (f2 b hb).2.2.2.2.2⟩, ?_, ?_, fun h e => ?_, goat, Array.getElem?_push_size .., rfl, ?_, fun b o e => ?_, fun A s2' Ss Gh pl hrA hfr hSs hk2 hos2 hb2 hpl hgh => ?_⟩
    · show h3.objs.size < h'.objs.size
      omega
    · show h'.objs.size < (h'.push _).objs.size
      rw [Heap.size_push]; exact Nat.lt_succ_self _
    · subst hgo
      exact ⟨_, _, _, e, rfl, rfl, rfl⟩
    · exact AllBare.push I2.bare rfl
    · exact Heap.get?_push_of_some _ (keep' b o e)
    · have keep2 : ∀ b o, h3.get? b = some o → s2'.heap.get? b = some o := fun b o e => hk2 b o (Heap.get?_push_of_some _ (keep' b o e))
      have hpins : ∀ p ∈ [(h'.objs.size, go)] ++ pl, s2'.heap.get? p.1 = some p.2 ∧ h3.objs.size < p.1 ∧ ∀ v, p.2.data ≠ .cell v := fun p hp => by
        rcases List.mem_append.mp hp with hp | hp
        · rw [List.mem_singleton.mp hp]
          refine ⟨hk2 h'.objs.size go ?_, by show h3.objs.size < h'.objs.size; omega, fun v q => by subst hgo; cases q⟩
          exact goat
        · have hS : p.1 ∈ Ss := by rw [← hpl.ad]; exact List.mem_map.mpr ⟨p, hp, rfl⟩
          have q := hSs _ hS
          have q2 : (h'.push go).objs.size ≤ p.1 := by subst hgo; exact q
          rw [Heap.size_push] at q2
          refine ⟨(hpl.at_ p hp).1, ?_, (hpl.at_ p hp).2⟩
          have q3 : h'.objs.size < p.1 := Nat.lt_of_succ_le q2
          rw [hsz'] at q3
          exact Nat.lt_of_succ_lt q3
      have IG := gen_start (code := code) (cm := cm) (N' := N') (fp := fp) J3 ok (fun b hb => ⟨fp3 b hb, Nat.lt_of_lt_of_le (fplt b hb) hsz⟩) (A := A.deeper (genEnv scope (cloFrom X.env.cells scope.names []) h3.objs.size code builtinsNs X.env)) hrA.hd
        (by show A.frames.map _ = _; rw [hfr]; rfl) (s2 := s2') (m0 := fun y => if y = ".0" then some (.ref it) else none) ((hn'.push _).keeps hk2) keep2 hos2 hb2 hpins
      have hSlt : ∀ b ∈ Ss, h'.objs.size < b := fun b hb => by
        have q := hSs b hb
        have q2 : (h'.push go).objs.size ≤ b := by subst hgo; exact q
        rw [Heap.size_push] at q2
        exact Nat.lt_of_succ_le q2
      have hrD := hrA.deeper (genEnv scope (cloFrom X.env.cells scope.names []) h3.objs.size code builtinsNs X.env)
      have cmL : ∀ {y c}, (cloFrom X.env.cells scope.names []).lookup y = some c → X.env.cells.lookup y = some c := fun {y c} hm => by
        rcases cloFrom_mem (PySem.mem_of_lookup hm) with hm | ⟨h1, rfl⟩
        · cases hm
        · obtain ⟨c, hc⟩ := hfree _ h1 rfl
          rw [hc] <;> rfl
      refine seg_start (G := gcx X { s2 with heap := h3, toks := tk } H2 N' (genEnv scope (cloFrom X.env.cells scope.names []) h3.objs.size code builtinsNs X.env) fp (A.deeper (genEnv scope (cloFrom X.env.cells scope.names []) h3.objs.size code builtinsNs X.env)) [(h'.objs.size, go)]) (C := ⟨Ss, Gh, Th, Qe⟩) (own := own) (W := W) rfl rfl rfl rfl ok.co T (hg _ _ _ _ _ _ _ _ hrD) (ht _ _ _ _ _ _ _ _ hrD) (he _ _ _ _ _ _ _ _ hrD) (fun p hp z => ?_) (fun b hb => ⟨?_, ?_, fun x c e z => ?_⟩) (fun b hb => ⟨?_, ?_, .inl hb, fun x c e => ?_, fun p hp => ?_, fun z => ?_⟩) tr w0 hpl hgh IG (T.keep _ _ _ st2 fun b hb o e => ?_) (fun b hb => (fp3 b hb).1) (fun _ _ => rfl)
      · rw [List.mem_singleton.mp hp] at z
        exact Nat.lt_irrefl _ (hSlt _ z)
      · exact Nat.le_of_lt (Nat.lt_of_le_of_lt (by omega : h3.objs.size ≤ h'.objs.size) (hSlt b hb))
      · exact Nat.ne_of_gt (Nat.lt_of_le_of_lt (by omega : h3.objs.size ≤ h'.objs.size) (hSlt b hb))
      · obtain ⟨w, q⟩ := I2.cell x c (cmL e)
        have q1 := q.lt
        rw [z] at q1
        exact Nat.lt_irrefl _ (Nat.lt_trans (Nat.lt_of_lt_of_le q1 hsz) (Nat.lt_of_le_of_lt (by omega : h3.objs.size ≤ h'.objs.size) (hSlt b hb)))
      · exact Nat.ne_of_lt (Nat.lt_of_lt_of_le (fplt b hb) hsz)
      · intro z
        rcases List.mem_cons.mp (J3.stkSub b z) with z | z
        · exact (fp3 b hb).2.1 z
        · exact (fp3 b hb).2.2.1 z
      · exact (f2 b hb).2.2.2.2.1 x c (cmL e)
      · rw [List.mem_singleton.mp hp]
        exact Nat.ne_of_gt (Nat.lt_of_lt_of_le (fplt b hb) (by omega : s2.heap.objs.size ≤ h'.objs.size))
      · exact Nat.lt_irrefl _ (Nat.lt_trans (Nat.lt_of_lt_of_le (fplt b hb) (by omega : s2.heap.objs.size ≤ h'.objs.size)) (hSlt b z))
      · exact keep2 b o (hx b o (fpP b hb) e)
  refine ⟨I2.nolimit, ?_⟩
  cases hf : codeAmong gpos ps.toList with
  | none =>
    refine wpAny_genexprCodeX hcode (cd.code hPs ht3) (cd.tab hPs) hf fun c' h' tk hx hge hlt hco' _ htab' _ => ?_
    obtain ⟨o1, vs, f1, tf, fl, tg, inF, tx, tt, op, _, _, _, _, _, _, _, _, _, htr, _⟩ := hco'
    exact cont _ h' tk _ hx (Nat.le_trans hge (Nat.le_of_lt hlt)) htab'.2 ⟨_, rfl⟩ htr
  | some cv =>
    refine wpAny_genexprCode_hit hcode (cd.code hPs ht3) hf ?_
    exact cont cv s2.heap s2.toks ps (Heap.ExtBut.refl _ _) (Nat.le_refl _) hPs ⟨#[], by simp⟩ ht3
end GX
set_option Elab.async false
set_option linter.all false
set_option maxRecDepth 100000
set_option maxHeartbeats 4000000
namespace GX
open PySem PySem.Spec PyProof.Rows L2 GenW

/-- the generator g sleeps (or has not begun), n items at most are to come -/
def Susp (G : Cx) (C : Cons) (σ0 : L2.St) (A : Around) (g n : Nat) (s : Shared) : Prop :=
  ∃ gs, s.gens[g]? = some gs ∧ gs.Goes (model G.prog G.w) A.in1 (GR G C σ0) (GY G C σ0) n (.send .none) (s.setGen g .running)

section
variable {G : Cx} {C : Cons} {σ0 : L2.St} {A : Around} {a : Addr} {g n : Nat} {go : Obj} {s : Shared} {E : Value → Shared → Prop} {Q : Option Value → Shared → Prop}
theorem gx_next (hh : A.handled = none) (hd : A.depth < recursionLimit) (hl : s.heap.NoLimit) (hg : s.heap.IsGen a g) (hS : Susp G C σ0 A g n s)
    (hY : ∀ ys x v pl H s1, n - 1 + 1 + ys.length = sizeLine → RelV x v → PinsAt C.Ss pl s1.heap → C.Gh ys pl → Inv G pl σ0 H s1 → C.Th ys x H → (∀ b ∈ C.Ss, s1.heap.get? b = s.heap.get? b) →
      (∀ s' pl', Sleeps C.Ss s1 s' → s'.gens = s1.gens → PinsAt C.Ss pl' s'.heap → C.Gh (ys ++ [x]) pl' → ∃ m, n = m + 1 ∧ Susp G C σ0 A g m s') → Q (some v) s1)
    (hP : ∀ s1, GP G C σ0 s s1 → Q none s1) : wpAny (model G.prog G.w) A (pyNext (.ref a)) Q E s := by
  obtain ⟨gs, hgs, hgo⟩ := hS
  have hgl : g < s.gens.size := (Array.getElem?_eq_some_iff.mp hgs).1
  refine wpAny_gsz (n := g + 1) hgl ?_
  refine wpAny_pyNext_genexpQ (P := fun n s₀ s₁ => GP G C σ0 s₀ s₁) hh hl hd hg hgs hgo (fun v s₁ gs' hbare hv hsz => ?_) (fun s₁ hp h' hk hsz => ?_)
  · obtain ⟨ys, x, pl, H, h1, h2, h3, h4, h5, h6, h8, h7⟩ := hv
    have hsz1 : g < s₁.gens.size := by
      have q : (s₁.setGen g gs').gens.size = s₁.gens.size := setGen_size _ _ _
      have hsz' : g + 1 ≤ (s₁.setGen g gs').gens.size := hsz
      omega
    refine hY ys x v pl H _ h1 h2 h3 h4 (inv_gens h5 hbare) h6 h8 fun s' pl' hsl hge hpl' hgh' => ?_
    have hsl2 : Sleeps C.Ss s₁ (s'.setGen g .running) := ⟨hsl.os, allBare_setGen hsl.bare rfl, hsl.keep⟩
    have q := h7 (s'.setGen g .running) pl' hsl2 hpl' hgh'
    cases n with
    | zero => exact False.elim q
    | succ m =>
      refine ⟨m, rfl, gs', ?_, q⟩
      rw [hge]
      exact setGen_at hsz1
  · obtain ⟨ys, pl, H, h1, h2, h3, h4, h5, h6⟩ := hp
    have hp2 : PinsAt C.Ss pl h' := ⟨h2.ad, fun p hp => ⟨hk _ _ (h2.at_ p hp).1, (h2.at_ p hp).2⟩⟩
    have I1 := inv_gens (g := g) (x := .finished) h4 rfl
    exact hP _ ⟨ys, pl, H, h1, hp2, h3, I1.kept (t' := s₁.toks) hk, h5, fun b hb => (h2.same hp2 b hb).trans (h6 b hb)⟩
end

/-- a generator just made, now drained: at its first resumption -/
theorem susp_of {X : Cx} {A : Around} {C : Cons} {sB : Shared} {HB : Hp} {N' : List Str} {cenv : Env} {fp : List Addr} {σ0 : L2.St} {a g : Nat} {go : Obj} {c : Code} {s2 : Shared} (hgs : s2.gens[g]? = some (.fresh c))
    (h : Seg (model X.prog X.w) A.in1 (GR (gcx X sB HB N' cenv fp (A.in1.deeper cenv) [(a, go)]) C σ0) (GY (gcx X sB HB N' cenv fp (A.in1.deeper cenv) [(a, go)]) C σ0) sizeLine (s2.setGen g .running) c ((model X.prog X.w).den c) [] (s2.setGen g .running)) :
    Susp (gcx X sB HB N' cenv fp (A.in1.deeper cenv) [(a, go)]) C σ0 A g sizeLine s2 := ⟨_, hgs, rfl, h⟩

section
variable {X : Cx} {pins : Pins} {σ : L2.St} {HB H : Hp} {sB s' : Shared} {N' : List Str} {cenv : Env} {fp : List Addr} {σ0 : L2.St} {A : Around} {pn pl : Pins}
/-- back outside -/
theorem inv_back (I : Inv X pins σ HB sB) (hex : ExOk X pins fp) (J : Inv (gcx X sB HB N' cenv fp A pn) pl σ0 H s') : Inv X pins σ H s' :=
  I.call' (ch := fp) J.os J.base J.hok J.bare hex
end

/-! ### list.extend's loop -/
def GhL (S : Addr) : List V → Pins → Prop := fun ys pl => ∃ (acc : Array Value) (c : Nat), pl = [(S, lstObj acc c)] ∧ Vals ys acc.toList
theorem ghl_at {S : Addr} {ys : List V} {pl : Pins} {h : Heap} (g : GhL S ys pl) (p : PinsAt [S] pl h) : ∃ (acc : Array Value) (c : Nat), h.get? S = some (lstObj acc c) ∧ Vals ys acc.toList := by
  obtain ⟨acc, c, rfl, r⟩ := g
  exact ⟨acc, c, (p.at_ _ (List.mem_singleton.mpr rfl)).1, r⟩
theorem drainL {G : Cx} {Th : List V → V → Hp → Prop} {Qe : List V → Hp → Prop} {σ0 : L2.St} {A : Around} {a S : Addr} {g : Nat} {go : Obj} {res : Value} {R : Result → Shared → Prop} (hh : A.handled = none) (hd : A.depth < recursionLimit) (hpa : (a, go) ∈ G.pn) (hgo : ∀ h : Heap, h.get? a = some go → h.IsGen a g)
    (hSa : S ≠ a) (hSc : S ≠ cStatics)
    (hend : ∀ s' ys acc c pl H, ys.length ≤ sizeLine → s'.heap.get? S = some (lstObj acc c) → Vals ys acc.toList → Inv G pl σ0 H s' → H S = none → Qe ys H → R (.ok (.ret res)) s') :
    ∀ (n : Nat) (s : Shared), s.heap.NoLimit → s.heap.IsGen a g → Susp G ⟨[S], GhL S, Th, Qe⟩ σ0 A.in1 g n s → codeAny (model G.prog G.w) A (.builtin "list.extend.loop" ⟨[.ref S, .ref a, res], []⟩) R s := by
  intro n
  induction n using Nat.strongRecOn with
  | ind n ih =>
    intro s hl hg hS
    refine codeAny_builtin F.entry_extend_loop ?_
    rw [Around.under_plainId F.plain_extend_loop _]
    show wpAny _ A.in1 (pyNext (.ref a) >>= _) _ _ s
    refine wpAny_bind (gx_next (A := A.in1) hh hd hl hg hS (fun ys x v pl H s1 h1 h2 h3 h4 h5 h6 _ h7 => ?_) fun s1 hp => ?_)
    · obtain ⟨acc, c, hS1, hv⟩ := ghl_at h4 h3
      have hlen : acc.toList.length = ys.length := hv.length.symm
      have hacc : acc.size < sizeLine := by
        have e : acc.toList.length = acc.size := by simp
        omega
      show wpAny _ A.in1 (updateSeq S (·.push v) >>= _) _ _ _
      refine wpAny_bind ?_
      refine wpAny_updateSeq hS1 rfl (wpAny_pure ⟨plainId_quiet F.plain_extend_loop _, ?_⟩) (Nat.le_of_lt hacc) (by show (acc.push v).size ≤ sizeLine + 1; rw [Array.size_push]; omega)
      have keep3 : ∀ b o, b ≠ S → s1.heap.get? b = some o → (s1.heap.update S (Obj.mapSeq (·.push v))).get? b = some o := fun b o hbS e => (Heap.get?_update_other _ _ (Ne.symm hbS)).trans e
      have hSn : ∃ c', (s1.heap.update S (Obj.mapSeq (·.push v))).get? S = some (lstObj (acc.push v) c') := ⟨_, Heap.get?_update_self _ hS1 rfl⟩
      obtain ⟨c', hSn⟩ := hSn
      obtain ⟨m, hm, hS2⟩ := h7 { s1 with heap := s1.heap.update S (Obj.mapSeq (·.push v)) } [(S, lstObj (acc.push v) c')] ⟨rfl, h5.bare, fun b o hb e => keep3 b o (fun z => hb (by rw [z]; exact List.mem_singleton.mpr rfl)) e⟩ rfl
        ⟨rfl, fun p hp => by rw [List.mem_singleton.mp hp]; exact ⟨hSn, fun v q => by cases q⟩⟩ ⟨_, _, rfl, by rw [Array.toList_push]; exact hv.append (.cons h2 .nil)⟩
      refine ih m (by omega) _ ?_ ?_ hS2
      · obtain ⟨mc, hns, hnn⟩ := h5.nolimit
        exact ⟨mc, hns.at' fun o e => keep3 _ o (Ne.symm hSc) e, hnn⟩
      · exact hgo _ (keep3 a go (Ne.symm hSa) (h5.pin (a, go) (List.mem_append_left _ hpa)).1)
    · obtain ⟨ys, pl, H, q1, q2, q3, q4, q5, _⟩ := hp
      obtain ⟨acc, c, hS1, hv⟩ := ghl_at q3 q2
      have hn : H S = none := by
        obtain ⟨acc', c', e, _⟩ := q3
        exact (q4.pin (S, lstObj acc' c') (List.mem_append_right _ (by rw [e]; exact List.mem_singleton.mpr rfl))).2.1
      exact wpAny_pure (hend _ ys acc c pl H q1 hS1 hv q4 hn q5)

/-- collect(g): the items in a list at S, untracked -/
theorem collect_gx {X : Cx} {pins : Pins} {σ : L2.St} {k : Nat} {Th : List V → V → Hp → Prop} {Qe : List V → Hp → Prop} {u : Value} {s : Shared} {A : Around} {Q : List Value → Shared → Prop} {E : Value → Shared → Prop} (hr : Room (k + 4) A) (hfr : A.frames = some X.stack)
    (hTh : ∀ ys x H, Th ys x H) (h : RdG X pins σ k Th Qe u s) (hQ : ∀ s' its ys H, ys.length ≤ sizeLine → Vals ys its → Inv X pins σ H s' → Qe ys H → Q its s') : wpAny (model X.prog X.w) A (collect u) Q E s := by
  obtain ⟨a, g, c, go, sB, HB, N', cenv, fp, σ0, rfl, I, hex, ha1, ha2, hgo, hat, hgs, hos, hb, hkp, run⟩ := h
  have hsB : sB.heap.NoLimit := I.nolimit
  have hcl : cStatics < sB.heap.objs.size := let ⟨_, hn, _⟩ := hsB; hn.lt
  have hlim : s.heap.NoLimit := hsB.keeps hkp
  have hSa : s.heap.objs.size ≠ a := Nat.ne_of_gt ha2
  have hSc : s.heap.objs.size ≠ cStatics := Nat.ne_of_gt (Nat.lt_trans hcl (Nat.lt_trans ha1 ha2))
  unfold collect
  refine wpAny_bind (wpAny_runValue (codeAny_builtin F.entry_proto_collect ?_))
  rw [Around.under_plainId F.plain_proto_collect _]
  show wpAny _ A.in1 (newList [] >>= fun l => again (.builtin "list.__iadd__" ⟨[l, .ref a], []⟩)) _ _ s
  refine wpAny_bind (wpAny_newObj_type ?_)
  refine wpAny_pure ⟨plainId_quiet F.plain_list_iadd _, codeAny_builtin F.entry_list_iadd ?_⟩
  rw [Around.under_plainId F.plain_list_iadd _]
  have hS₁ : (s.heap.push { cls := .type "list", data := .seq ([] : List Value).toArray }).get? s.heap.objs.size = some { cls := .type "list", data := .seq ([] : List Value).toArray } := Heap.get?_push_size _ rfl
  have k1 : ∀ b o, s.heap.get? b = some o → (s.heap.push { cls := .type "list", data := .seq ([] : List Value).toArray }).get? b = some o := fun b o e => Heap.get?_push_of_some _ e
  have gty : (s.heap.push { cls := .type "list", data := .seq ([] : List Value).toArray }).IsGen a g := hgo _ (k1 _ _ hat)
  show wpAny _ A.in1 (Builtin.List.listExtendWith (.ref s.heap.objs.size) (.ref a) (.ref s.heap.objs.size)) _ _ _
  unfold Builtin.List.listExtendWith
  refine wpAny_bind (wpAny_typeOf (Heap.IsGen.typeIs (s := { s with heap := _ }) gty) ?_)
  have h1 : Builtin.List.listSameRef (.ref s.heap.objs.size) (.ref a) = false := by simp [Builtin.List.listSameRef, hSa]
  have h2 : (Value.type "generator" == Value.type "list") = false := by decide
  have h3 : (Value.type "generator" == Value.type "tuple") = false := by decide
  simp only [h1, h2, h3, Bool.or_false, Bool.false_eq_true, if_false]
  refine wpAny_bind (wpAny_pyIter_gen (s := { s with heap := _ }) gty ?_)
  refine wpAny_bind (wpAny_holding ?_)
  unfold Builtin.List.listLengthHint
  refine wpAny_bind (wpAny_specialOf (Heap.IsGen.typeIs (s := { s with heap := _ }) gty) F.gen_no_len ?_)
  show wpAny _ A.in1 (specialOf (Value.ref a) (Str.ofString "__length_hint__") >>= _) _ _ _
  refine wpAny_bind (wpAny_specialOf (Heap.IsGen.typeIs (s := { s with heap := _ }) gty) F.gen_no_hint ?_)
  refine wpAny_pure ?_
  show wpAny _ A.in1 (rule "list.extend.makes-room" >>= fun _ => Builtin.List.listTouch (.ref s.heap.objs.size) >>= fun _ =>
    again (.builtin "list.extend.loop" ⟨[.ref s.heap.objs.size, .ref a, .ref s.heap.objs.size], []⟩)) _ _ _
  refine wpAny_bind (wpAny_rule ?_)
  refine wpAny_bind ?_
  show wpAny _ A.in1 (updateSeq s.heap.objs.size (·.push .none) >>= fun _ => updateSeq s.heap.objs.size (·.pop)) _ _ _
  refine wpAny_bind (wpAny_updateSeq hS₁ rfl ?_)
  have hS3 := Heap.get?_update_self (Obj.mapSeq (·.push Value.none)) hS₁ rfl
  refine wpAny_updateSeq (hz := by seq_fits) hS3 rfl ?_
  have hS4 := Heap.get?_update_self (Obj.mapSeq (·.pop)) hS3 rfl
  have up : ∀ (h : Heap) (f : Obj → Obj), (∀ b o, s.heap.get? b = some o → h.get? b = some o) → ∀ b o, s.heap.get? b = some o → (h.update s.heap.objs.size f).get? b = some o := fun h f q b o e =>
    (Heap.get?_update_other _ _ (Ne.symm (Nat.ne_of_lt (Heap.lt_size e)))).trans (q b o e)
  have k4 := up _ (Obj.mapSeq (·.pop)) (up _ (Obj.mapSeq (·.push Value.none)) k1)
  refine wpAny_pure ⟨plainId_quiet F.plain_extend_loop _, ?_⟩
  have hroom : Room (k + 1) A.in1.in1 := ⟨hr.hd, by have := hr.dp; show A.depth + 3 * (k + 1) + 5 < _; omega, by have := hr.un; show A.units + 1 + 1 + 16 * (k + 1) + 200 < _; omega⟩
  refine drainL (G := gcx X sB HB N' cenv fp (A.in1.in1.deeper cenv) [(a, go)]) (Th := Th) (Qe := Qe) (σ0 := σ0) (go := go) hr.hd (by have := hr.dp; show A.depth < _; omega) (List.mem_singleton.mpr rfl) hgo hSa hSc
    (fun s' ys acc c pl H q1 q2 q3 q4 q5 q6 => ?_) sizeLine _ (hlim.keeps k4) (hgo _ (k4 _ _ hat)) (susp_of hgs (run A.in1.in1 _ [s.heap.objs.size] (GhL s.heap.objs.size) _ hroom hfr (fun b hb => by rw [List.mem_singleton.mp hb]; exact Nat.le_refl _) k4 hos (allBare_setGen (s := { s with heap := _ }) hb rfl)
      ⟨rfl, fun p hp => by rw [List.mem_singleton.mp hp]; exact ⟨hS4, fun v q => by cases q⟩⟩ ⟨#[], _, rfl, .nil⟩))
  show wpAny _ A (load s.heap.objs.size >>= _) _ _ s'
  refine wpAny_bind (wpAny_load q2 ?_)
  exact wpAny_pure (hQ s' acc.toList ys H q1 q3 (inv_back I hex q4) q6)
end GX
set_option Elab.async false
set_option linter.all false
set_option maxRecDepth 100000
set_option maxHeartbeats 4000000
namespace GX
open PySem PySem.Spec PyProof.Rows L2 GenW

theorem boot_sorted' : bootBuiltins "sorted" = some (.builtin "sorted") := by decide +kernel
theorem boot_sum' : bootBuiltins "sum" = some (.builtin "sum") := by decide +kernel
theorem boot_any' : bootBuiltins "any" = some (.builtin "any") := by decide +kernel
theorem boot_all' : bootBuiltins "all" = some (.builtin "all") := by decide +kernel

section
variable {X : Cx} {pins : Pins} {σ : L2.St} {H : Hp} {s : Shared}
theorem inv_A (I : Inv X pins σ H s) {A' : Around} (h1 : A'.handled = X.A.handled) (h2 : A'.frames = X.A.frames) : Inv { X with A := A' } pins σ H s :=
  ⟨⟨I.ok.mod, I.ok.kind, I.ok.glob, I.ok.blt, I.ok.above, I.ok.inj, I.ok.has, I.ok.cab, fun c => h1.trans (I.ok.hd c), h2.trans I.ok.frames, I.ok.stk, I.ok.exf, I.ok.bs, I.ok.bsz, I.ok.noex, I.ok.exfs, I.ok.funs, I.ok.frf⟩, I.os, I.bare, I.base, I.loc, I.cell, I.free, I.freeC, I.pin, I.hok, I.len⟩
theorem inv_A' {A' : Around} (I : Inv { X with A := A' } pins σ H s) (h1 : X.A.handled = A'.handled) (h2 : X.A.frames = A'.frames) : Inv X pins σ H s := inv_A (X := { X with A := A' }) I h1 h2
end

section
variable {X : Cx} {p pos : Pos} {e : Expr} {tg : TGx} {k : Nat}
/-- sorted(g): r is list.sort's rule -/
def tSortedG (tg : TGx) (r : V → List V → Hp → VK → Prop) : TE := fun σ H Q => tg σ H (fun _ _ _ => True) fun ys H1 => ∀ l, H1 l = none → r (.ref l) [] (upd H1 l (.lst ys)) fun _ H2 => Q (.ref l) H2
theorem pe_sortedG {r : V → List V → Hp → VK → Prop} (h : PGx X k e tg) (hs : ∀ A', MtR { X with A := A' } "list.sort" r) (hr : Room (k + 5) X.A) (hg : Gl X "sorted") (hm : X.mg "sorted" = none)
    (he : starEach [e] X.env = (false, eval e X.env) :: starEach [] X.env := by rfl) : PE X (.Call (.Name "sorted" p) [e] [] pos) (tSortedG tg r) := by
  refine ⟨fun pins s σ H Q I hq => ?_⟩
  refine wpAny_Call_Name_kw (ld_blt I hg hm boot_sorted' ?_)
  refine PyProof.Rows.callWith_builtin1 ?_ he (by rfl)
  rw [he]
  show wpAny _ _ (spliced ((false, eval e X.env) :: backTo pos (starEach [] X.env))) _ _ s
  refine Calls.spliced_cons (thn (h.run pins s σ H _ _ I hq) fun u s1 hG => ?_)
  refine Calls.spliced_nil ?_
  refine Calls.call_function_entry kind_sorted plain_sorted entry_sorted (args_sorted1 _) ?_
  unfold Builtin.«sorted»
  refine wpAny_bind (m := checkCount "sorted" 1 1 _) (wpAny_pure ?_)
  have hr1 : Room (k + 4) X.A.in1 := ⟨hr.hd, by have := hr.dp; show X.A.depth + 3 * (k + 4) + 5 < _; omega, by have := hr.un; show X.A.units + 1 + 16 * (k + 4) + 200 < _; omega⟩
  refine wpAny_bind (collect_gx (pins := pins) (σ := σ) hr1 I.ok.frames (fun _ _ _ => trivial) hG fun s' its ys H1 hlen hv I1 hq1 => ?_)
  have hil : its.length ≤ sizeLine := by rw [← hv.length]; exact hlen
  refine wpAny_bind (wpAny_newList ?_ hil)
  have fresh : H1 s'.heap.objs.size = none := I1.hok.fresh (Nat.le_refl _)
  have I2 : Inv X pins σ (upd H1 s'.heap.objs.size (.lst ys)) { s' with heap := s'.heap.push (seqObj "list" its.toArray 0) } :=
    I1.laid (t' := s'.toks) (fun _ _ e => Heap.get?_push_of_some _ e) (Nat.le_refl _) ⟨hlen, its, 0, hv, Heap.get?_push_size _ rfl⟩
  refine wpAny_bind (wpAny_holding ?_)
  refine wpAny_mono (hs X.A.in1 pins _ σ _ (.ref s'.heap.objs.size) [] (.ref s'.heap.objs.size) [] _ (inv_A (A' := X.A.in1) I2 rfl rfl) rfl .nil (hq1 _ fresh)) (fun v s3 h3 => ?_) fun _ _ e => e
  obtain ⟨v', H3, I3, r3, q3⟩ := h3
  exact wpAny_pure ⟨_, rfl, .ref s'.heap.objs.size, H3, inv_A' I3 rfl rfl, rfl, q3⟩

/-! ### sum -/
def vsum : List V → Int
  | [] => 0
  | .int i :: r => i + vsum r
  | _ :: r => vsum r
theorem vsum_append (xs ys : List V) : vsum (xs ++ ys) = vsum xs + vsum ys := by
  induction xs with
  | nil => simp [vsum]
  | cons v r ih =>
    cases v <;> simp [vsum, ih] <;> omega
theorem vsum_ints (is : List Int) : vsum (is.map V.int) = is.sum := by
  induction is with
  | nil => rfl
  | cons i r ih => simp [vsum, ih]
def GhS (S : Addr) : List V → Pins → Prop := fun ys pl => ∃ (t : Tok) (c : Nat), pl = [(S, lstObj #[.int (vsum ys) t] c)]
def ThS : List V → V → Hp → Prop := fun ys x _ => ∃ j, x = .int j ∧ InLong j ∧ InLong (vsum ys + j)
theorem drainS {G : Cx} {Qe : List V → Hp → Prop} {σ0 : L2.St} {A : Around} {a S : Addr} {g : Nat} {go : Obj} {R : Result → Shared → Prop} (hh : A.handled = none) (hd : A.depth < recursionLimit) (hpa : (a, go) ∈ G.pn) (hgo : ∀ h : Heap, h.get? a = some go → h.IsGen a g)
    (hSa : S ≠ a) (hSc : S ≠ cStatics)
    (hend : ∀ s' ys t pl H, Inv G pl σ0 H s' → Qe ys H → R (.ok (.ret (.int (vsum ys) t))) s') :
    ∀ (n : Nat) (s : Shared) (z : Int) (t : Tok) (c : Nat), s.heap.NoLimit → s.heap.IsGen a g → s.heap.get? S = some (lstObj #[.int z t] c) → Susp G ⟨[S], GhS S, ThS, Qe⟩ σ0 A.in1 g n s → codeAny (model G.prog G.w) A (.builtin "sum.loop" ⟨[.ref a, .ref S, rawInt 0, rawInt 0], []⟩) R s := by
  intro n
  induction n using Nat.strongRecOn with
  | ind n ih =>
    intro s z t c hl hg hS0 hS
    refine codeAny_builtin F.entry_sum_loop ?_
    rw [Around.under_plainId F.plain_sum_loop _]
    show wpAny _ A.in1 (seqItems? (.ref S) >>= _) _ _ s
    refine wpAny_bind (wpAny_seqItems hS0 rfl ?_)
    show wpAny _ A.in1 (tryCatch (pyNext (.ref a)) _ >>= _) _ _ s
    have hS0' := hS0
    refine wpAny_bind (wpAny_tryCatch ?_)
    refine gx_next (A := A.in1) hh hd hl hg hS (fun ys x v pl H s1 h1 h2 h3 h4 h5 h6 h8 h7 => ?_) fun s1 hp => ?_
    · obtain ⟨t', c', rfl⟩ := h4
      have e1 : s1.heap.get? S = some (lstObj #[.int (vsum ys) t'] c') := (h3.at_ _ (List.mem_singleton.mpr rfl)).1
      have e2 := e1.symm.trans ((h8 S (List.mem_singleton.mpr rfl)).trans hS0)
      obtain ⟨j, rfl, ⟨f1, f2⟩, f3, f4⟩ := h6
      obtain ⟨tv, rfl⟩ := (show ∃ t, v = Value.int j t from h2)
      have ez : z = vsum ys := by
        have e3 : (#[Value.int (vsum ys) t'] : Array Value) = #[.int z t] := by
          have := congrArg Obj.data (Option.some.inj e2)
          injection this
        have e4 := congrArg Array.toList e3
        simp only [List.cons.injEq, Value.int.injEq, and_true] at e4
        exact e4.1.symm
      subst ez
      have hc : ((decide (-(2 ^ 63) ≤ j) && decide (j < 2 ^ 63)) && (decide (-(2 ^ 63) ≤ vsum ys + j) && decide (vsum ys + j < 2 ^ 63))) = true := by
        simp only [Bool.and_eq_true, decide_eq_true_eq]
        exact ⟨⟨f1, f2⟩, f3, f4⟩
      show wpAny _ A.in1 (if (_ : Bool) = true then (mkInt (vsum ys + j) >>= _) else _) _ _ _
      split
      · refine wpAny_bind (wpAny_mkInt ?_)
        show wpAny _ A.in1 (updateSeq S (fun _ => #[.int (vsum ys + j) s1.toks]) >>= _) _ _ _
        refine wpAny_bind ?_
        refine wpAny_updateSeq e1 rfl (wpAny_pure ⟨plainId_quiet F.plain_sum_loop _, ?_⟩)
        have keep3 : ∀ b o, b ≠ S → s1.heap.get? b = some o → (s1.heap.update S (Obj.mapSeq (fun _ => #[.int (vsum ys + j) s1.toks]))).get? b = some o := fun b o hbS e => (Heap.get?_update_other _ _ (Ne.symm hbS)).trans e
        obtain ⟨c2, hSn⟩ : ∃ c2, (s1.heap.update S (Obj.mapSeq (fun _ => #[.int (vsum ys + j) s1.toks]))).get? S = some (lstObj #[.int (vsum ys + j) s1.toks] c2) := ⟨_, Heap.get?_update_self _ e1 rfl⟩
        obtain ⟨m, hm, hS2⟩ := h7 { s1 with heap := s1.heap.update S (Obj.mapSeq (fun _ => #[.int (vsum ys + j) s1.toks])), toks := s1.toks + 1 } [(S, lstObj #[.int (vsum ys + j) s1.toks] c2)] ⟨rfl, h5.bare, fun b o hb e => keep3 b o (fun z => hb (by rw [z]; exact List.mem_singleton.mpr rfl)) e⟩ rfl
          ⟨rfl, fun p hp => by rw [List.mem_singleton.mp hp]; exact ⟨hSn, fun v q => by cases q⟩⟩ ⟨s1.toks, c2, by rw [vsum_append]; simp [vsum]⟩
        refine ih m (by omega) _ (vsum ys + j) s1.toks c2 ?_ ?_ hSn hS2
        · obtain ⟨mc, hns, hnn⟩ := h5.nolimit
          exact ⟨mc, hns.at' fun o e => keep3 _ o (Ne.symm hSc) e, hnn⟩
        · exact hgo _ (keep3 a go (Ne.symm hSa) (h5.pin (a, go) (List.mem_append_left _ hpa)).1)
      · rename_i hneg
        exact absurd hc hneg
    · obtain ⟨ys, pl, H, q1, q2, ⟨t', c', rfl⟩, q4, q5, q6⟩ := hp
      have e1 : s1.heap.get? S = some (lstObj #[.int (vsum ys) t'] c') := (q2.at_ _ (List.mem_singleton.mpr rfl)).1
      have e2 := e1.symm.trans ((q6 S (List.mem_singleton.mpr rfl)).trans hS0)
      have ez : z = vsum ys := by
        have e3 : (#[Value.int (vsum ys) t'] : Array Value) = #[.int z t] := by
          have := congrArg Obj.data (Option.some.inj e2)
          injection this
        have e4 := congrArg Array.toList e3
        simp only [List.cons.injEq, Value.int.injEq, and_true] at e4
        exact e4.1.symm
      subst ez
      exact wpAny_pure (hend s1 ys t _ H q4 q5)
def tSumG (tg : TGx) : TE := fun σ H Q => tg σ H ThS fun ys H1 => Q (.int (vsum ys)) H1
theorem pe_sumG (h : PGx X k e tg) (hr : Room (k + 4) X.A) (hg : Gl X "sum") (hm : X.mg "sum" = none)
    (he : starEach [e] X.env = (false, eval e X.env) :: starEach [] X.env := by rfl) : PE X (.Call (.Name "sum" p) [e] [] pos) (tSumG tg) := by
  refine ⟨fun pins s σ H Q I hq => ?_⟩
  refine wpAny_Call_Name_kw (ld_blt I hg hm boot_sum' ?_)
  refine PyProof.Rows.callWith_builtin1 ?_ he (by rfl)
  rw [he]
  show wpAny _ _ (spliced ((false, eval e X.env) :: backTo pos (starEach [] X.env))) _ _ s
  refine Calls.spliced_cons (thn (h.run pins s σ H _ _ I hq) fun u s1 hG => ?_)
  refine Calls.spliced_nil ?_
  obtain ⟨a, g, c, go, sB, HB, N', cenv, fp, σ0, rfl, I1, hex, ha1, ha2, hgo, hat, hgs, hos, hb, hkp, run⟩ := hG
  have hsB : sB.heap.NoLimit := I1.nolimit
  have hcl : cStatics < sB.heap.objs.size := let ⟨_, hn, _⟩ := hsB; hn.lt
  have hlim : s1.heap.NoLimit := hsB.keeps hkp
  refine call_function_tree F.kind_sum F.plain_sum F.entry_sum (F.args_sum1 _) ?_
  unfold Builtin.«sum»
  simp only [List.length_cons, List.length_nil]
  rw [if_neg (by decide)]
  refine wpAny_bind (wpAny_of_eq (show Builtin.Builtins.bindParams "sum" ["start"] 0 { } = pure [none] from rfl) ?_)
  refine wpAny_bind (wpAny_pyIter_gen (hgo _ hat) ?_)
  refine wpAny_bind (wpAny_mkInt ?_)
  refine wpAny_bind (wpAny_pure ?_)
  simp only [List.forIn_cons, List.forIn_nil]
  refine wpAny_bind (wpAny_bind (wpAny_bind (wpAny_isInstance (T := "int") (b := false) (typeIs_int _ _ _) PySem.sub_int_str ?_)))
  simp only [Bool.false_eq_true, if_false]
  refine wpAny_pure (wpAny_bind (wpAny_bind (wpAny_isInstance (T := "int") (b := false) (typeIs_int _ _ _) PySem.sub_int_bytes ?_)))
  simp only [Bool.false_eq_true, if_false]
  refine wpAny_pure (wpAny_bind (wpAny_bind (wpAny_isInstance (T := "int") (b := false) (typeIs_int _ _ _) PySem.sub_int_bytearray ?_)))
  simp only [Bool.false_eq_true, if_false]
  refine wpAny_pure (wpAny_pure ?_)
  refine wpAny_bind (wpAny_newObj_type ?_)
  have k1 : ∀ (o : Obj) b u, s1.heap.get? b = some u → (s1.heap.push o).get? b = some u := fun o b u e => Heap.get?_push_of_some _ e
  have hroom : Room (k + 1) X.A.in1.in1 := ⟨hr.hd, by have := hr.dp; show X.A.depth + 3 * (k + 1) + 5 < _; omega, by have := hr.un; show X.A.units + 1 + 1 + 16 * (k + 1) + 200 < _; omega⟩
  have hS0 : ∀ t, (s1.heap.push { cls := .type "list", data := .seq ([Value.int 0 t] : List Value).toArray }).get? s1.heap.objs.size = some (lstObj #[.int (vsum []) t] 0) := fun t => Heap.get?_push_size _ rfl
  refine wpAny_pure ⟨plainId_quiet F.plain_sum_loop _, ?_⟩
  refine drainS (G := gcx X sB HB N' cenv fp (X.A.in1.in1.deeper cenv) [(a, go)]) (Qe := fun ys H1 => Q (V.int (vsum ys)) H1) (σ0 := σ0) (A := X.A) (go := go) hr.hd (by have := hr.dp; show X.A.depth < _; omega) (List.mem_singleton.mpr rfl) hgo (Nat.ne_of_gt ha2) (Nat.ne_of_gt (Nat.lt_trans hcl (Nat.lt_trans ha1 ha2)))
    (fun s' ys t pl H1 q1 q2 => ?_) sizeLine _ (vsum []) s1.toks 0 ?_ ?_ ?_ ?_
  · exact ⟨.int (vsum ys), H1, inv_back I1 hex q1, ⟨t, rfl⟩, q2⟩
  · exact hlim.keeps (k1 _)
  · exact hgo _ (k1 _ _ _ hat)
  · exact hS0 _
  · refine susp_of hgs (run X.A.in1.in1 _ [s1.heap.objs.size] (GhS s1.heap.objs.size) _ hroom I.ok.frames (fun b hb => by rw [List.mem_singleton.mp hb]; exact Nat.le_refl _) (k1 _) hos (allBare_setGen (s := { s1 with heap := _ }) hb rfl) ?_ ⟨s1.toks, 0, rfl⟩)
    exact ⟨rfl, fun p hp => by rw [List.mem_singleton.mp hp]; exact ⟨hS0 _, fun v q => by cases q⟩⟩
end

/-! ### any, all -/
theorem drain1 {G : Cx} {nm : String} {bb : Bool} {Th : List V → V → Hp → Prop} {Qe : List V → Hp → Prop} {σ0 : L2.St} {A : Around} {a : Addr} {g : Nat} {go : Obj} {R : Result → Shared → Prop} (hh : A.handled = none) (hd : A.depth < recursionLimit) (hpa : (a, go) ∈ G.pn) (hgo : ∀ h : Heap, h.get? a = some go → h.IsGen a g)
    (hTh : ∀ ys x H, Th ys x H → ∃ b, x = .bl b)
    (step : ∀ (s : Shared) (R' : Result → Shared → Prop), wpAny (model G.prog G.w) A.in1 (pyNext (.ref a)) (fun r s1 => match r with
        | none => R' (.ok (.ret (.bool (!bb)))) s1
        | some v => ∃ b, v = .bool b ∧ if b = bb then R' (.ok (.ret (.bool bb))) s1 else codeAny (model G.prog G.w) A (.builtin nm ⟨[.ref a], []⟩) R' s1) (fun e s1 => R' (.error e) s1) s → codeAny (model G.prog G.w) A (.builtin nm ⟨[.ref a], []⟩) R' s)
    (hend : ∀ s' ys pl H, Inv G pl σ0 H s' → Qe ys H → R (.ok (.ret (.bool (!bb)))) s') (hyes : ∀ s' ys pl H, Inv G pl σ0 H s' → Th ys (.bl bb) H → R (.ok (.ret (.bool bb))) s') :
    ∀ (n : Nat) (s : Shared), s.heap.NoLimit → s.heap.IsGen a g → Susp G ⟨[], fun _ pl => pl = [], Th, Qe⟩ σ0 A.in1 g n s → codeAny (model G.prog G.w) A (.builtin nm ⟨[.ref a], []⟩) R s := by
  intro n
  induction n using Nat.strongRecOn with
  | ind n ih =>
    intro s hl hg hS
    refine step s R (gx_next (A := A.in1) hh hd hl hg hS (fun ys x v pl H s1 h1 h2 h3 h4 h5 h6 h8 h7 => ?_) fun s1 hp => ?_)
    · obtain ⟨b, rfl⟩ := hTh _ _ _ h6
      have ev : v = Value.bool b := h2
      refine ⟨b, ev, ?_⟩
      by_cases hb : b = bb
      · rw [if_pos hb]
        subst hb
        exact hyes s1 ys pl H h5 h6
      · rw [if_neg hb]
        obtain ⟨m, hm, hS2⟩ := h7 s1 [] ⟨rfl, h5.bare, fun _ _ _ e => e⟩ rfl ⟨rfl, fun p hp => absurd hp (by simp)⟩ rfl
        exact ih m (by omega) s1 h5.nolimit (hgo _ (h5.pin (a, go) (List.mem_append_left _ hpa)).1) hS2
    · obtain ⟨ys, pl, H, q1, q2, q3, q4, q5, q6⟩ := hp
      exact hend s1 ys pl H q4 q5
theorem step_any {prog : Program} {w : World} {A : Around} {a : Addr} (s : Shared) (R' : Result → Shared → Prop) (h : wpAny (model prog w) A.in1 (pyNext (.ref a)) (fun r s1 => match r with
        | none => R' (.ok (.ret (.bool (!true)))) s1
        | some v => ∃ b, v = .bool b ∧ if b = true then R' (.ok (.ret (.bool true))) s1 else codeAny (model prog w) A (.builtin "any.loop" ⟨[.ref a], []⟩) R' s1) (fun e s1 => R' (.error e) s1) s) : codeAny (model prog w) A (.builtin "any.loop" ⟨[.ref a], []⟩) R' s := by
  refine codeAny_builtin F.entry_any_loop ?_
  rw [Around.under_plainId F.plain_any_loop _]
  show wpAny _ A.in1 (pyNext (.ref a) >>= _) _ _ s
  refine wpAny_bind (thn h fun r s1 h1 => ?_)
  cases r with
  | none => exact wpAny_bind (wpAny_rule (wpAny_pure h1))
  | some v =>
    obtain ⟨b, rfl, h1⟩ := h1
    refine wpAny_bind (wpAny_holding (wpAny_truthy_bool ?_))
    refine wpAny_bind (wpAny_letGo ?_)
    cases b with
    | true =>
      simp only [if_true]
      exact wpAny_bind (wpAny_rule (wpAny_pure h1))
    | false =>
      simp only [Bool.false_eq_true, if_false]
      exact wpAny_pure ⟨plainId_quiet F.plain_any_loop _, h1⟩
theorem step_all {prog : Program} {w : World} {A : Around} {a : Addr} (s : Shared) (R' : Result → Shared → Prop) (h : wpAny (model prog w) A.in1 (pyNext (.ref a)) (fun r s1 => match r with
        | none => R' (.ok (.ret (.bool (!false)))) s1
        | some v => ∃ b, v = .bool b ∧ if b = false then R' (.ok (.ret (.bool false))) s1 else codeAny (model prog w) A (.builtin "all.loop" ⟨[.ref a], []⟩) R' s1) (fun e s1 => R' (.error e) s1) s) : codeAny (model prog w) A (.builtin "all.loop" ⟨[.ref a], []⟩) R' s := by
  refine codeAny_builtin F.entry_all_loop ?_
  rw [Around.under_plainId F.plain_all_loop _]
  show wpAny _ A.in1 (pyNext (.ref a) >>= _) _ _ s
  refine wpAny_bind (thn h fun r s1 h1 => ?_)
  cases r with
  | none => exact wpAny_bind (wpAny_rule (wpAny_pure h1))
  | some v =>
    obtain ⟨b, rfl, h1⟩ := h1
    refine wpAny_bind (wpAny_holding (wpAny_truthy_bool ?_))
    refine wpAny_bind (wpAny_letGo ?_)
    cases b with
    | false =>
      simp only [Bool.false_eq_true, if_false]
      exact wpAny_bind (wpAny_rule (wpAny_pure h1))
    | true =>
      simp only [if_true]
      exact wpAny_pure ⟨plainId_quiet F.plain_all_loop _, h1⟩
def tAnyG (tg : TGx) : TE := fun σ H Q => tg σ H (fun _ x H1 => ∃ b, x = .bl b ∧ (b = true → Q (.bl true) H1)) fun _ H1 => Q (.bl false) H1
def tAllG (tg : TGx) : TE := fun σ H Q => tg σ H (fun _ x H1 => ∃ b, x = .bl b ∧ (b = false → Q (.bl false) H1)) fun _ H1 => Q (.bl true) H1
section
variable {X : Cx} {p pos : Pos} {e : Expr} {tg : TGx} {k : Nat}
theorem pe_anyG (h : PGx X k e tg) (hr : Room (k + 4) X.A) (hg : Gl X "any") (hm : X.mg "any" = none)
    (he : starEach [e] X.env = (false, eval e X.env) :: starEach [] X.env := by rfl) : PE X (.Call (.Name "any" p) [e] [] pos) (tAnyG tg) := by
  refine ⟨fun pins s σ H Q I hq => ?_⟩
  refine wpAny_Call_Name_kw (ld_blt I hg hm boot_any' ?_)
  refine PyProof.Rows.callWith_builtin1 ?_ he (by rfl)
  rw [he]
  show wpAny _ _ (spliced ((false, eval e X.env) :: backTo pos (starEach [] X.env))) _ _ s
  refine Calls.spliced_cons (thn (h.run pins s σ H _ _ I hq) fun u s1 hG => ?_)
  refine Calls.spliced_nil ?_
  obtain ⟨a, g, c, go, sB, HB, N', cenv, fp, σ0, rfl, I1, hex, ha1, ha2, hgo, hat, hgs, hos, hb, hkp, run⟩ := hG
  refine call_function_tree F.kind_any F.plain_any F.entry_any (F.args_any1 _) ?_
  unfold Builtin.«any»
  refine wpAny_bind (m := oneArg "any" _) (wpAny_pure ?_)
  refine wpAny_bind (wpAny_pyIter_gen (hgo _ hat) ?_)
  have hroom : Room (k + 1) X.A.in1.in1 := ⟨hr.hd, by have := hr.dp; show X.A.depth + 3 * (k + 1) + 5 < _; omega, by have := hr.un; show X.A.units + 1 + 1 + 16 * (k + 1) + 200 < _; omega⟩
  refine wpAny_pure ⟨plainId_quiet F.plain_any_loop _, ?_⟩
  refine drain1 (G := gcx X sB HB N' cenv fp (X.A.in1.in1.deeper cenv) [(a, go)]) (bb := true) (nm := "any.loop") (Th := fun _ x H1 => ∃ b, x = .bl b ∧ (b = true → Q (.bl true) H1)) (Qe := fun _ H1 => Q (.bl false) H1) (σ0 := σ0) (A := X.A) (go := go) hr.hd (by have := hr.dp; show X.A.depth < _; omega) (List.mem_singleton.mpr rfl) hgo
    (fun _ _ _ ⟨b, e, _⟩ => ⟨b, e⟩) step_any (fun s' ys pl H1 q1 q2 => ?_) (fun s' ys pl H1 q1 q2 => ?_) sizeLine _ (I1.nolimit.keeps hkp) (hgo _ hat) (susp_of hgs (run X.A.in1.in1 _ [] (fun _ pl => pl = []) [] hroom I.ok.frames (fun b hb => absurd hb (by simp)) (fun _ _ e => e) hos (allBare_setGen hb rfl) ⟨rfl, fun p hp => absurd hp (by simp)⟩ rfl))
  · exact ⟨.bl false, H1, inv_back I1 hex q1, rfl, q2⟩
  · obtain ⟨b, e, q2⟩ := q2
    cases e
    exact ⟨.bl true, H1, inv_back I1 hex q1, rfl, q2 rfl⟩
theorem pe_allG (h : PGx X k e tg) (hr : Room (k + 4) X.A) (hg : Gl X "all") (hm : X.mg "all" = none)
    (he : starEach [e] X.env = (false, eval e X.env) :: starEach [] X.env := by rfl) : PE X (.Call (.Name "all" p) [e] [] pos) (tAllG tg) := by
  refine ⟨fun pins s σ H Q I hq => ?_⟩
  refine wpAny_Call_Name_kw (ld_blt I hg hm boot_all' ?_)
  refine PyProof.Rows.callWith_builtin1 ?_ he (by rfl)
  rw [he]
  show wpAny _ _ (spliced ((false, eval e X.env) :: backTo pos (starEach [] X.env))) _ _ s
  refine Calls.spliced_cons (thn (h.run pins s σ H _ _ I hq) fun u s1 hG => ?_)
  refine Calls.spliced_nil ?_
  obtain ⟨a, g, c, go, sB, HB, N', cenv, fp, σ0, rfl, I1, hex, ha1, ha2, hgo, hat, hgs, hos, hb, hkp, run⟩ := hG
  refine call_function_tree F.kind_all F.plain_all F.entry_all (F.args_all1 _) ?_
  unfold Builtin.«all»
  refine wpAny_bind (m := oneArg "all" _) (wpAny_pure ?_)
  refine wpAny_bind (wpAny_pyIter_gen (hgo _ hat) ?_)
  have hroom : Room (k + 1) X.A.in1.in1 := ⟨hr.hd, by have := hr.dp; show X.A.depth + 3 * (k + 1) + 5 < _; omega, by have := hr.un; show X.A.units + 1 + 1 + 16 * (k + 1) + 200 < _; omega⟩
  refine wpAny_pure ⟨plainId_quiet F.plain_all_loop _, ?_⟩
  refine drain1 (G := gcx X sB HB N' cenv fp (X.A.in1.in1.deeper cenv) [(a, go)]) (bb := false) (nm := "all.loop") (Th := fun _ x H1 => ∃ b, x = .bl b ∧ (b = false → Q (.bl false) H1)) (Qe := fun _ H1 => Q (.bl true) H1) (σ0 := σ0) (A := X.A) (go := go) hr.hd (by have := hr.dp; show X.A.depth < _; omega) (List.mem_singleton.mpr rfl) hgo
    (fun _ _ _ ⟨b, e, _⟩ => ⟨b, e⟩) step_all (fun s' ys pl H1 q1 q2 => ?_) (fun s' ys pl H1 q1 q2 => ?_) sizeLine _ (I1.nolimit.keeps hkp) (hgo _ hat) (susp_of hgs (run X.A.in1.in1 _ [] (fun _ pl => pl = []) [] hroom I.ok.frames (fun b hb => absurd hb (by simp)) (fun _ _ e => e) hos (allBare_setGen hb rfl) ⟨rfl, fun p hp => absurd hp (by simp)⟩ rfl))
  · exact ⟨.bl true, H1, inv_back I1 hex q1, rfl, q2⟩
  · obtain ⟨b, e, q2⟩ := q2
    cases e
    exact ⟨.bl false, H1, inv_back I1 hex q1, rfl, q2 rfl⟩
end
end GX
set_option Elab.async false
set_option linter.all false
set_option maxRecDepth 100000
set_option maxHeartbeats 4000000
/-! What all laws of this program share. -/
namespace KC
open PySem PySem.Spec PyProof.Rows L2 GX Evl

/-- a def of the top, called by its name -/
structure Cal (P : Program) (w : World) (K : PySem.W.Frag) (mg : Str → Option Value) (base : Heap) (nm : Str) (k : Nat) (ps : List Str) (sp : Sp) : Prop where
  out : ∃ f fd, mg nm = some (.ref f) ∧ PySem.W.keepIn K (.ref f) = true ∧ Binds K fd ps [] ∧ FnOk P w K mg base CX0 k f fd ps sp
theorem pe_callC {X : Cx} {nm : Str} {k : Nat} {ps : List Str} {sp : Sp} {p pos : Pos} {e : Expr} {es : List Expr} {t : TA} (C : Cal X.prog X.w X.K X.mg X.base nm k ps sp) (hr : Room k X.A) (hg : Gl X nm) (ha : PA X (e :: es) t)
    (hdb : (nm == ("__debug__" : Str)) = false := by decide) (he : starEach (e :: es) X.env = (false, eval e X.env) :: starEach es X.env := by rfl) (hpl : (backTo pos (starEach es X.env)).any (·.1) = false := by rfl) :
    PE X (.Call (.Name nm p) (e :: es) [] pos) (tCall sp [] E0 t) := by
  obtain ⟨f, fd, h1, h2, h3, h4⟩ := C.out
  exact pe_call h4 hr hg h1 h2 h3 .nil pass0 ha hdb he hpl

/-- the builtins that no def of the text hides -/
structure Bs (mg : Str → Option Value) : Prop where
  len : mg "len" = none
  int : mg "int" = none
  min : mg "min" = none
  max : mg "max" = none
  list : mg "list" = none
  sorted : mg "sorted" = none
  sum : mg "sum" = none
  range : mg "range" = none
  enumerate : mg "enumerate" = none
  zip : mg "zip" = none
  any : mg "any" = none
  isinstance : mg "isinstance" = none
  bool : mg "bool" = none
  reversed : mg "reversed" = none

/-- a def whose code object is known (its table of codes is used) -/
structure FunT (K : PySem.W.Frag) (x qual : Str) (st : Stmt) (f : Addr) (fd : FuncData) (c : Addr) : Prop where
  ex : ∃ (oc : Value) (od : Option Addr) (kV doc pm : Value) (an : Option Addr) (ct : Value) (osl : Array (Option Value)),
    fd = PySem.W.fnOf x qual (defArgs st) (defBody st) (defScope st) .none kV doc pm an (.ref c) ct ∧ K.lookup f = some ⟨oc, od, .func fd, osl⟩ ∧ PySem.W.codeIn K (.ref c) qual = true
  kp : PySem.W.keepIn K (.ref f) = true
theorem FunT.fn {K : PySem.W.Frag} {x qual : Str} {st : Stmt} {f c : Addr} {fd : FuncData} (F : FunT K x qual st f fd c) : Fun K x qual st f fd := by
  obtain ⟨oc, od, kV, doc, pm, an, ct, osl, h1, h2, h3⟩ := F.ex
  exact ⟨⟨oc, od, kV, doc, pm, an, .ref c, ct, osl, h1, h2, h3⟩, F.kp⟩
section
variable {P : Program} {w : World} {K : PySem.W.Frag} {mg : Str → Option Value} {base : Heap}
theorem FunT.ok {x qual : Str} {st : Stmt} {f c : Addr} {fd : FuncData} {N ps : List Str} {k : Nat} {sp : Sp} (F : FunT K x qual st f fd c) (S : FnScope N ps (defScope st)) (len : ∀ vs H Q E, sp vs H Q E → vs.length = ps.length)
    (hbody : ∀ (A : Around) (outer : List Env) (s : Shared) (H : Hp) (vs : List V) (Q : VK) (E : XK), Room k (A.deeper (envOfC qual (defScope st) s.heap.objs.size f (.ref c))) → sp vs H Q E →
      ∃ t, PSs (cxOf CX0 P w K mg base N qual (defScope st) f (.ref c) A outer s H E).nox (defBody st) t ∧ t { nx := fun _ H' => Q .non H', rt := Q } (start N vs) H) : FnOk P w K mg base CX0 (k + 1) f fd ps sp := by
  obtain ⟨oc, od, kV, doc, pm, an, ct, osl, rfl, lk, hcd⟩ := F.ex
  refine fn_of lk hcd S len fun A outer s H vs Q E hr hsp => ?_
  obtain ⟨t, h, q⟩ := hbody A outer s H vs Q E hr hsp
  exact ⟨t, h.nox, q⟩
theorem cal_of {nm : Str} {st : Stmt} {f : Addr} {fd : FuncData} {k : Nat} {ps : List Str} {sp : Sp} (F : Fun K nm nm st f fd) (g : mg nm = some (.ref f)) (b : Binds K fd ps []) (ok : FnOk P w K mg base CX0 k f fd ps sp) : Cal P w K mg base nm k ps sp :=
  ⟨f, fd, g, F.kp, b, ok⟩
end

/-! ### heaps -/
theorem ex_of_new {H H' : Hp} {p : Addr} {o : HO} (e : Ex H H') (h : H' p = none) : Ex H (upd H' p o) := e.trans (Ex.new h)
mutual
theorem Dp.ext {K : PySem.W.Frag} {H H' : Hp} (e : Ex H H') : ∀ (d : PyData) (v : V), Dp K H v d → Dp K H' v d
  | .none, _, h => by cases h; exact .non
  | .bool b, _, h => by cases h; exact .bl b
  | .int i, _, h => by cases h; exact .int i
  | .str x, _, h => by cases h; exact .str x
  | .list ds, _, h => by
    cases h with
    | lst h1 h2 => exact .lst (ex_l e h1) (DpAll.ext e ds _ h2)
  | .tuple ds, _, h => by
    cases h with
    | tup h1 h2 => exact .tup (ex_t e h1) (DpAll.ext e ds _ h2)
  | .dict _, _, h => by cases h
theorem DpAll.ext {K : PySem.W.Frag} {H H' : Hp} (e : Ex H H') : ∀ (ds : List PyData) (vs : List V), DpAll K H vs ds → DpAll K H' vs ds
  | [], _, h => by cases h; exact .nil
  | d :: ds, _, h => by
    cases h with
    | cons h1 h2 => exact .cons (Dp.ext e d _ h1) (DpAll.ext e ds _ h2)
end
theorem DpAll.app {K : PySem.W.Frag} {H : Hp} : ∀ {vs : List V} {ds : List PyData} {v : V} {d : PyData}, DpAll K H vs ds → Dp K H v d → DpAll K H (vs ++ [v]) (ds ++ [d])
  | [], _, _, _, h, h2 => by cases h; exact .cons h2 .nil
  | _ :: _, _, _, _, h, h2 => by
    cases h with
    | cons a b => exact .cons a (DpAll.app b h2)
theorem DpAll.len {K : PySem.W.Frag} {H : Hp} : ∀ {vs : List V} {ds : List PyData}, DpAll K H vs ds → vs.length = ds.length
  | [], _, h => by cases h; rfl
  | _ :: _, _, h => by
    cases h with
    | cons a b => exact congrArg (· + 1) (DpAll.len b)
theorem dpAll_ints {K : PySem.W.Frag} {H : Hp} : ∀ ns : List Int, DpAll K H (ns.map V.int) (ns.map PyData.int)
  | [] => .nil
  | n :: r => .cons (.int n) (dpAll_ints r)
theorem eqvAll_ints : ∀ xs ys : List Int, PyData.eqvAll (xs.map PyData.int) (ys.map PyData.int) = decide (xs = ys)
  | [], [] => by simp [PyData.eqvAll]
  | [], _ :: _ => by simp [PyData.eqvAll]
  | _ :: _, [] => by simp [PyData.eqvAll]
  | x :: xs, y :: ys => by
    simp only [List.map_cons, PyData.eqvAll, PyData.eqv, eqvAll_ints xs ys]
    by_cases h1 : x = y <;> by_cases h2 : xs = ys <;> simp [h1, h2]
theorem int_at {ns : List Int} {i : Nat} (h : i < ns.length) : (ns.map V.int)[i]? = some (.int (ns.getD i 0)) := by
  rw [List.getElem?_map, List.getElem?_eq_getElem h, List.getD_eq_getElem?_getD, List.getElem?_eq_getElem h]
  rfl
theorem atI_at {ns : List Int} {z : Int} {i : Nat} (e : z = (i : Int)) (h : i < ns.length) : atI (ns.map V.int) z = some (.int (ns.getD i 0)) := at_of e (int_at h)

/-! ### more readings, in short -/
section
variable {K : PySem.W.Frag} {σ : L2.St} {H H' : Hp} {ta tb te tx : TE} {t u : TT} {x y z v : V} {D : Ends} {tu tw tz : TS} {g : TG}
theorem rv_mod {i j : Int} (h : 0 < j) : RV (rI (fun _ j => 0 < j) fun i j => .int (i % j)) (.int i) (.int j) H (.int (i % j)) := rv_I h
theorem rv_div {i j : Int} (h : 0 < j) (h2 : j < 1073741824) : RV (rI CDiv fun i j => .int (i / j)) (.int i) (.int j) H (.int (i / j)) := rv_I ⟨h, h2⟩
theorem rv_mul {i j : Int} (h : -(2 ^ 64) < i ∧ i < 2 ^ 64) : RV (rI CMul fun i j => .int (i * j)) (.int i) (.int j) H (.int (i * j)) := rv_I (.inl h)
theorem rc_val {r : List V → Hp → VK → Prop} {vs : List V} (h : ∀ H1, Ex H H1 → ∀ Q : VK, Q z H1 → r vs H1 Q) : RC r vs H z := fun H1 e Q q => h H1 e Q (q H1 (Ex.refl H1))
theorem rc_int {i : Int} : RC (fun xs H Q => (∃ i, xs = [.int i] ∧ Q (.int i) H) ∨ ∃ k, xs = [.bl k] ∧ Q (.int (if k then 1 else 0)) H) [.int i] H (.int i) := rc_val fun _ _ _ q => .inl ⟨i, rfl, q⟩
theorem rc_len {a : Addr} {xs : List V} {r : List V → Hp → VK → Prop} (h : ∀ H1, Ex H H1 → ∀ Q : VK, Q (.int (xs.length : Int)) H1 → r [.ref a] H1 Q) : RC r [.ref a] H (.int (xs.length : Int)) := rc_val h
theorem ea1 (h : Ev ta σ H x) : EvA (tCons ta tNil) σ H [x] := ea_cons h ea_nil
theorem ea2 (h : Ev ta σ H x) (h2 : Ev tb σ H y) : EvA (tCons ta (tCons tb tNil)) σ H [x, y] := ea_cons h (ea1 h2)
theorem ea3 {tc : TE} (h : Ev ta σ H x) (h2 : Ev tb σ H y) (h3 : Ev tc σ H z) : EvA (tCons ta (tCons tb (tCons tc tNil))) σ H [x, y, z] := ea_cons h (ea2 h2 h3)
end
end KC
set_option Elab.async false
set_option linter.all false
set_option maxRecDepth 100000
set_option maxHeartbeats 4000000
namespace KC
open PySem PySem.Spec PyProof.Rows L2 GX Evl

/-- it gives data d -/
def EvD (K : PySem.W.Frag) (te : TE) (σ : L2.St) (H : Hp) (d : PyData) : Prop := ∀ H1, Ex H H1 → ∀ Q : VK, (∀ v H2, Ex H1 H2 → Dp K H2 v d → Q v H2) → te σ H1 Q
def EvDA (K : PySem.W.Frag) (ta : TA) (σ : L2.St) (H : Hp) (ds : List PyData) : Prop := ∀ H1, Ex H H1 → ∀ Q : List V → Hp → Prop, (∀ vs H2, Ex H1 H2 → DpAll K H2 vs ds → Q vs H2) → ta σ H1 Q
def RetD (K : PySem.W.Frag) (d : PyData) (H : Hp) (Q : VK) : Prop := ∀ v H2, Ex H H2 → Dp K H2 v d → Q v H2
def SpD (K : PySem.W.Frag) (sp : Sp) (vs : List V) (H : Hp) (d : PyData) : Prop := ∀ H1, Ex H H1 → ∀ Q : VK, (∀ v H2, Ex H1 H2 → Dp K H2 v d → Q v H2) → ∀ E : XK, sp vs H1 Q E
mutual
def noList : PyData → Bool
  | .list _ => false
  | .dict _ => false
  | .tuple ds => noListAll ds
  | _ => true
def noListAll : List PyData → Bool
  | [] => true
  | d :: r => noList d && noListAll r
end
theorem sqt_put {K : PySem.W.Frag} {H : Hp} {l a : Addr} {zs ys xs : List V} (h : SqT K H a xs) (hl : H l = some (.lst zs)) : SqT K (upd H l (.lst ys)) a xs := by
  rcases h with (h | ⟨o, h⟩) | h
  · exact .inl (.inl (by rw [upd_ne (fun e => by rw [e, hl] at h; cases h)]; exact h))
  · exact .inl (.inr ⟨o, by rw [upd_ne (fun e => by rw [e, hl] at h; cases h)]; exact h⟩)
  · exact .inr h
theorem sql_put {K : PySem.W.Frag} {H : Hp} {l a : Addr} {ys xs : List V} (h : SqL K H a xs) (hl : a ≠ l) : SqL K (upd H l (.lst ys)) a xs := by
  rcases h with (h | ⟨o, h⟩) | h
  · exact .inl (.inl (by rw [upd_ne hl]; exact h))
  · exact .inl (.inr ⟨o, by rw [upd_ne hl]; exact h⟩)
  · exact .inr h
mutual
theorem Dp.put {K : PySem.W.Frag} {H : Hp} {l : Addr} {zs ys : List V} (hl : H l = some (.lst zs)) : ∀ (d : PyData) (v : V), noList d = true → Dp K H v d → Dp K (upd H l (.lst ys)) v d
  | .none, _, _, h => by cases h; exact .non
  | .bool b, _, _, h => by cases h; exact .bl b
  | .int i, _, _, h => by cases h; exact .int i
  | .str x, _, _, h => by cases h; exact .str x
  | .list _, _, z, _ => by simp [noList] at z
  | .tuple ds, _, z, h => by
    cases h with
    | tup h1 h2 => exact .tup (sqt_put h1 hl) (DpAll.put hl ds _ (by simpa [noList] using z) h2)
  | .dict _, _, _, h => by cases h
theorem DpAll.put {K : PySem.W.Frag} {H : Hp} {l : Addr} {zs ys : List V} (hl : H l = some (.lst zs)) : ∀ (ds : List PyData) (vs : List V), noListAll ds = true → DpAll K H vs ds → DpAll K (upd H l (.lst ys)) vs ds
  | [], _, _, h => by cases h; exact .nil
  | d :: ds, _, z, h => by
    cases h with
    | cons h1 h2 =>
      simp only [noListAll, Bool.and_eq_true] at z
      exact .cons (Dp.put hl d _ z.1 h1) (DpAll.put hl ds _ z.2 h2)
end
theorem noListAll_map {α : Type} {f : α → PyData} (hf : ∀ a, noList (f a) = true) : ∀ xs : List α, noListAll (xs.map f) = true
  | [] => rfl
  | a :: r => by simp [noListAll, hf a, noListAll_map hf r]

section
variable {K : PySem.W.Frag} {σ : L2.St} {H H' : Hp} {ta tb te tx : TE} {t u : TT} {x y z v : V} {D : Ends} {tu tw tz : TS} {g : TG} {d d2 : PyData} {ds : List PyData}
theorem EvD.mono (e : Ex H H') (h : EvD K te σ H d) : EvD K te σ H' d := fun H1 a Q q => h H1 (e.trans a) Q q
theorem ed_int {i : Int} (h : Ev te σ H (.int i)) : EvD K te σ H (.int i) := fun H1 e Q q => h H1 e Q fun H2 e2 => q _ H2 e2 (.int i)
theorem ed_non (h : Ev te σ H .non) : EvD K te σ H .none := fun H1 e Q q => h H1 e Q fun H2 e2 => q _ H2 e2 .non
theorem ed_bl {b : Bool} (h : Ev te σ H (.bl b)) : EvD K te σ H (.bool b) := fun H1 e Q q => h H1 e Q fun H2 e2 => q _ H2 e2 (.bl b)
theorem ed_at (h : Ev te σ H v) (hd : Dp K H v d) : EvD K te σ H d := fun H1 e Q q => h H1 e Q fun H2 e2 => q _ H2 e2 (Dp.ext (e.trans e2) _ _ hd)
theorem eda_nil : EvDA K tNil σ H [] := fun H1 _ Q q => q [] H1 (Ex.refl H1) .nil
theorem eda_cons {tr : TA} (h : EvD K te σ H d) (hr : EvDA K tr σ H ds) : EvDA K (tCons te tr) σ H (d :: ds) := fun H1 e Q q =>
  h H1 e _ fun v H2 e2 hv => hr H2 (e.trans e2) _ fun vs H3 e3 hvs => q _ H3 (e2.trans e3) (.cons (Dp.ext e3 _ _ hv) hvs)
theorem ed_tup {ta : TA} (h : EvDA K ta σ H ds) (hl : ds.length ≤ 100000) : EvD K (tTup ta) σ H (.tuple ds) := fun H1 e Q q =>
  h H1 e _ fun vs H2 e2 hvs => ⟨sz_of (by rw [DpAll.len hvs]; exact hl), fun p hp => q _ _ (e2.trans (Ex.new hp)) (.tup (.inl (.inl upd_same)) (DpAll.ext (Ex.new hp) _ _ hvs))⟩
theorem ed_lst {ta : TA} (h : EvDA K ta σ H ds) (hl : ds.length ≤ 100000) : EvD K (tLst ta) σ H (.list ds) := fun H1 e Q q =>
  h H1 e _ fun vs H2 e2 hvs => ⟨sz_of (by rw [DpAll.len hvs]; exact hl), fun p hp => q _ _ (e2.trans (Ex.new hp)) (.lst (.inl (.inl upd_same)) (DpAll.ext (Ex.new hp) _ _ hvs))⟩
theorem ed_call {sp : Sp} {dvs vs : List V} {E : XK} {ta : TA} (h : EvA ta σ H vs) (hs : SpD K sp (vs ++ dvs) H d) : EvD K (tCall sp dvs E ta) σ H d := fun H1 e Q q =>
  h H1 e _ fun H2 e2 => hs H2 (e.trans e2) Q (fun v H3 e3 hv => q v H3 (e2.trans e3) hv) E
/-- a list of ints as data -/
theorem ed_listI {ns : List Int} (h : EvL te σ H (ns.map V.int)) : EvD K te σ H (.list (ns.map PyData.int)) := fun H1 e Q q =>
  h H1 e Q fun p H2 _ e2 hp => q _ H2 e2 (.lst (.inl (.inl hp)) (dpAll_ints ns))
theorem dp_listI {l : Addr} {ns : List Int} (h : SqL K H l (ns.map V.int)) : Dp K H (.ref l) (.list (ns.map PyData.int)) := .lst h (dpAll_ints ns)
theorem s_retD (h : EvD K te σ H d) (k : ∀ v H1, Ex H H1 → Dp K H1 v d → D.rt v H1) : tRet te D σ H := h H (Ex.refl H) _ k
theorem s_asgD {i : Nat} (h : EvD K te σ H d) (k : ∀ v H1, Ex H H1 → Dp K H1 v d → D.nx (σ.set i (some v)) H1) : tAsg te (gName i) D σ H := h H (Ex.refl H) _ k
theorem q_asgD {i : Nat} (h : EvD K te σ H d) (k : ∀ v H1, Ex H H1 → Dp K H1 v d → tz D (σ.set i (some v)) H1) : tSeq (tAsg te (gName i)) tz D σ H := s_asgD (D := { D with nx := tz D }) h k
/-- xs.append(data) -/
theorem s_appD {l : Addr} {xs : List V} (hl : H l = some (.lst xs)) (ha : Ev ta σ H (.ref l)) (h : EvD K te σ H d) (hz : xs.length < 100000) (k : ∀ v H1, Ex H H1 → Dp K H1 v d → D.nx σ (upd H1 l (.lst (xs ++ [v])))) :
    tDrop (tBM K "list" rAppend ta (tCons te tNil)) D σ H := ha H (Ex.refl H) _ fun H1 e1 =>
  ⟨Or.inl ⟨rfl, xs, sq_of (e1 l _ hl)⟩, h H1 e1 _ fun v H2 e2 hv => ⟨l, xs, v, rfl, rfl, e2 l _ (e1 l _ hl), sz_lt hz, k v H2 (e1.trans e2) hv⟩⟩
/-- data equal, not equal -/
theorem ev_eqD (ha : EvD K ta σ H d) (hb : EvD K tb σ H d2) (h1 : SeqAt.shaped d = true) (h2 : SeqAt.shaped d2 = true) : Ev (tOp (rEqD K) ta tb) σ H (.bl (PyData.eqv d d2)) := fun H1 e Q q =>
  ha H1 e _ fun v H2 e2 hv => hb H2 (e.trans e2) _ fun u H3 e3 hu => ⟨d, d2, Dp.ext e3 _ _ hv, hu, h1, h2, q H3 (e2.trans e3)⟩
theorem ev_neD (ha : EvD K ta σ H d) (hb : EvD K tb σ H d2) (h1 : SeqAt.shaped d = true) (h2 : SeqAt.shaped d2 = true) : Ev (tOp (rNeD K) ta tb) σ H (.bl (!PyData.eqv d d2)) := fun H1 e Q q =>
  ha H1 e _ fun v H2 e2 hv => hb H2 (e.trans e2) _ fun u H3 e3 hu => ⟨d, d2, Dp.ext e3 _ _ hv, hu, h1, h2, q H3 (e2.trans e3)⟩
theorem el_cat {xs ys : List V} {b : Addr} (ha : EvL ta σ H xs) (hb : Ev tb σ H (.ref b)) (h : H b = some (.lst ys)) (hz : xs.length + ys.length ≤ 100000) : EvL (tOp rCat ta tb) σ H (xs ++ ys) := fun H1 e Q q =>
  ha H1 e _ fun p H2 np e2 hp => hb H2 (e.trans e2) _ fun H3 e3 => ⟨p, b, xs, ys, rfl, rfl, e3 p _ hp, ((e.trans e2).trans e3) b _ h, sz_of hz, fun p2 hp2 => q p2 _ (fresh_back (e2.trans e3) hp2) ((e2.trans e3).trans (Ex.new hp2)) upd_same⟩
theorem el_cat2 {xs ys : List V} {a b : Addr} (ha : Ev ta σ H (.ref a)) (h0 : H a = some (.lst xs)) (hb : Ev tb σ H (.ref b)) (h : H b = some (.lst ys)) (hz : xs.length + ys.length ≤ 100000) : EvL (tOp rCat ta tb) σ H (xs ++ ys) := fun H1 e Q q =>
  ha H1 e _ fun H2 e2 => hb H2 (e.trans e2) _ fun H3 e3 => ⟨a, b, xs, ys, rfl, rfl, ((e.trans e2).trans e3) a _ h0, ((e.trans e2).trans e3) b _ h, sz_of hz, fun p2 hp2 => q p2 _ (fresh_back (e2.trans e3) hp2) ((e2.trans e3).trans (Ex.new hp2)) upd_same⟩
theorem el_rep {xs : List V} {i : Int} (ha : EvL ta σ H xs) (hb : Ev tb σ H (.int i)) (h1 : 0 ≤ i ∧ i ≤ 10000) (hz : xs.length ≤ 10) : EvL (tOp rRep ta tb) σ H (List.replicate i.toNat xs).flatten := fun H1 e Q q =>
  ha H1 e _ fun p H2 np e2 hp => hb H2 (e.trans e2) _ fun H3 e3 => ⟨p, i, xs, rfl, rfl, e3 p _ hp, by omega, by omega, sz_of (Nat.le_trans (Nat.mul_le_mul hz (show i.toNat ≤ 10000 by omega)) (by decide)), fun p2 hp2 => q p2 _ (fresh_back (e2.trans e3) hp2) ((e2.trans e3).trans (Ex.new hp2)) upd_same⟩
theorem el_rev {xs : List V} {a : Addr} (ha : Ev ta σ H (.ref a)) (h : SqL K H a xs) : EvL (tRevL K ta) σ H xs.reverse := fun H1 e Q q =>
  ha H1 e _ fun H2 e2 => ⟨a, xs, rfl, ex_l (e.trans e2) h, fun p hp => q p _ (fresh_back e2 hp) (e2.trans (Ex.new hp)) upd_same⟩
theorem el_if {b : Bool} {xs : List V} (h : EvT t σ H b) (h1 : b = true → EvL ta σ H xs) (h2 : b = false → EvL tb σ H xs) : EvL (tIf t ta tb) σ H xs := fun H1 e Q q => h H1 e _ fun H2 e2 => by
  cases b with
  | true => exact h1 rfl H2 (e.trans e2) Q fun p H3 hp e3 => q p H3 (fresh_back e2 hp) (e2.trans e3)
  | false => exact h2 rfl H2 (e.trans e2) Q fun p H3 hp e3 => q p H3 (fresh_back e2 hp) (e2.trans e3)
theorem rv_shl {i j : Int} (h : 0 ≤ j ∧ j ≤ 1000000 ∧ i.natAbs < 2 ^ 64) : RV (rI CPow fun i j => .int (i * 2 ^ j.toNat)) (.int i) (.int j) H (.int (i * 2 ^ j.toNat)) := rv_I h
theorem rv_shr {i j : Int} (h : 0 ≤ j) : RV (rI (fun _ j => 0 ≤ j) fun i j => .int (i / 2 ^ j.toNat)) (.int i) (.int j) H (.int (i / 2 ^ j.toNat)) := rv_I h
theorem rc_min {i j : Int} : RC (fun xs H Q => ∃ i j, xs = [.int i, .int j] ∧ Q (.int (if j < i then j else i)) H) [.int i, .int j] H (.int (if j < i then j else i)) := rc_val fun _ _ _ q => ⟨i, j, rfl, q⟩
theorem rc_max {i j : Int} : RC (fun xs H Q => ∃ i j, xs = [.int i, .int j] ∧ Q (.int (if j > i then j else i)) H) [.int i, .int j] H (.int (if j > i then j else i)) := rc_val fun _ _ _ q => ⟨i, j, rfl, q⟩
theorem ev_min {i j : Int} (h : Ev ta σ H (.int i)) (h2 : Ev tb σ H (.int j)) : Ev (tCB (fun xs H Q => ∃ i j, xs = [.int i, .int j] ∧ Q (.int (if j < i then j else i)) H) (tCons ta (tCons tb tNil))) σ H (.int (if j < i then j else i)) := ev_cb (ea2 h h2) rc_min
theorem ev_add {i j : Int} (h : Ev ta σ H (.int i)) (h2 : Ev tb σ H (.int j)) : Ev (tOp (rI0 fun i j => .int (i + j)) ta tb) σ H (.int (i + j)) := ev_op h h2 rv_I0
theorem ev_sub {i j : Int} (h : Ev ta σ H (.int i)) (h2 : Ev tb σ H (.int j)) : Ev (tOp (rI0 fun i j => .int (i - j)) ta tb) σ H (.int (i - j)) := ev_op h h2 rv_I0
theorem ev_lt {i j : Int} (h : Ev ta σ H (.int i)) (h2 : Ev tb σ H (.int j)) : Ev (tOp (rI0 fun i j => .bl (decide (i < j))) ta tb) σ H (.bl (decide (i < j))) := ev_op h h2 rv_I0
theorem ev_eq {i j : Int} (h : Ev ta σ H (.int i)) (h2 : Ev tb σ H (.int j)) : Ev (tOp rEq ta tb) σ H (.bl (decide (i = j))) := by
  have q := ev_op h h2 (rv_eq (x := .int i) (y := .int j) rfl)
  have e : decide ((V.int i) = V.int j) = decide (i = j) := by
    by_cases z : i = j
    · subst z; simp
    · rw [decide_eq_false z, decide_eq_false (fun q => z (V.int.inj q))]
  rw [e] at q
  exact q
theorem ev_ne {i j : Int} (h : Ev ta σ H (.int i)) (h2 : Ev tb σ H (.int j)) : Ev (tOp rNe ta tb) σ H (.bl (!decide (i = j))) := by
  have q := ev_op h h2 (rv_ne (x := .int i) (y := .int j) rfl)
  have e : decide ((V.int i) = V.int j) = decide (i = j) := by
    by_cases z : i = j
    · subst z; simp
    · rw [decide_eq_false z, decide_eq_false (fun q => z (V.int.inj q))]
  rw [e] at q
  exact q
end
end KC
set_option Elab.async false
set_option linter.all false
set_option maxRecDepth 100000
set_option maxHeartbeats 4000000
namespace KC
open PySem PySem.Spec PyProof.Rows L2 GX Evl
def capC (N N' : List Str) (cm : List (Option Nat)) (scope sc : Scope) : Bool :=
  decide (scope.kind = .function) && !scope.isCoroutine && (scope.names.all fun y => decide (y.2 ≠ .cell)) && decide (scope.names.lookup (".0" : Str) = some NameKind.local) &&
    (scope.names.all fun y => !decide (y.2 = .free) || (decide (sc.names.lookup y.1 = some .cell) || decide (sc.names.lookup y.1 = some .free))) && decide (cm.length = N'.length) &&
    ((cm.zip N').all fun p => match p.1 with | some j => (N[j]? == some p.2) && (scope.names.lookup p.2 == some .free) | none => true)
theorem capOk_by {N N' : List Str} {cm : List (Option Nat)} {scope sc : Scope} (h : capC N N' cm scope sc = true) : CapOk N N' cm scope sc := by
  unfold capC at h
  simp only [Bool.and_eq_true, List.all_eq_true, decide_eq_true_eq, Bool.not_eq_true', Bool.or_eq_true, decide_eq_false_iff_not] at h
  obtain ⟨⟨⟨⟨⟨⟨h1, h2⟩, h3⟩, h4⟩, h5⟩, h6⟩, h7⟩ := h
  refine ⟨h1, h2, h3, h4, fun y hy e => ?_, h6, ?_⟩
  · rcases h5 y hy with z | z
    · exact absurd e z
    · exact z
  · rw [List.all_eq_true]
    intro p hp
    have := h7 p hp
    revert this
    cases p.1 <;> simp
theorem ix_listK {X : Cx} {K : PySem.W.Frag} (h : X.K = K) : IxR X (rIxL K) := by
  subst h
  exact ix_list
theorem ix_tupK {X : Cx} {K : PySem.W.Frag} (h : X.K = K) : IxR X (rIxT K) := by
  subst h
  exact ix_tup
theorem canLayAll0_map {α : Type} {f : α → PyData} (h : ∀ a, (f a).canLay0 = true) : ∀ xs : List α, PyData.canLayAll0 (xs.map f) = true
  | [] => by simp [PyData.canLayAll0]
  | a :: r => by simp [PyData.canLayAll0, h a, canLayAll0_map h r]
theorem depthAll_map {α : Type} {f : α → PyData} {n : Nat} (h : ∀ a, (f a).depth ≤ n) : ∀ xs : List α, PyData.depthAll (xs.map f) ≤ n
  | [] => by simp [PyData.depthAll]
  | a :: r => by
    have h1 := depthAll_map h r
    have h2 := h a
    simp only [List.map_cons, PyData.depthAll]
    omega
theorem shaped_list {α : Type} {f : α → PyData} {n : Nat} (hn : n ≤ 60) (h1 : ∀ a, (f a).canLay0 = true) (h2 : ∀ a, (f a).depth ≤ n) (xs : List α) : SeqAt.shaped (.list (xs.map f)) = true := by
  have h3 := depthAll_map h2 xs
  have h4 : PyData.depth (.list (xs.map f)) ≤ 64 := by simp only [PyData.depth]; omega
  show (PyData.canLay0 (.list (xs.map f)) && decide (PyData.depth (.list (xs.map f)) ≤ 64)) = true
  rw [Bool.and_eq_true]
  exact ⟨by simp only [PyData.canLay0]; exact canLayAll0_map h1 xs, decide_eq_true h4⟩
theorem shaped_ints (ns : List Int) : SeqAt.shaped (.list (ns.map PyData.int)) = true := shaped_list (n := 1) (by decide) (fun a => by simp [PyData.canLay0]) (fun a => by simp [PyData.depth]) ns
theorem eqvAll_map {α : Type} {f : α → PyData} (h : ∀ a, PyData.eqv (f a) (f a) = true) : ∀ xs : List α, PyData.eqvAll (xs.map f) (xs.map f) = true
  | [] => by simp [PyData.eqvAll]
  | a :: r => by simp [PyData.eqvAll, h a, eqvAll_map h r]
theorem eqv_list {α : Type} {f : α → PyData} (h : ∀ a, PyData.eqv (f a) (f a) = true) (xs : List α) : PyData.eqv (.list (xs.map f)) (.list (xs.map f)) = true := by
  simp only [PyData.eqv]
  exact eqvAll_map h xs
theorem eqv_ints (xs : List Int) : PyData.eqv (.list (xs.map PyData.int)) (.list (xs.map PyData.int)) = true := eqv_list (fun a => by simp [PyData.eqv]) xs
section
variable {K : PySem.W.Frag} {σ : L2.St} {H H' : Hp} {ta tb tc te tx : TE}
theorem ev_sumL {ns : List Int} (h : EvL te σ H (ns.map V.int)) : Ev (tCB (rSum K) (tCons te tNil)) σ H (.int ns.sum) := fun H1 e Q q =>
  h H1 e _ fun p H2 _ e2 hp => ⟨p, ns, rfl, sq_of hp, q H2 e2⟩
theorem ev_sumLa {ns : List Int} {a : Addr} (h : Ev te σ H (.ref a)) (hs : SqL K H a (ns.map V.int)) : Ev (tCB (rSum K) (tCons te tNil)) σ H (.int ns.sum) := fun H1 e Q q =>
  h H1 e _ fun H2 e2 => ⟨a, ns, rfl, ex_l (e.trans e2) hs, q H2 e2⟩
theorem et_yes : EvT tYes σ H true := fun H1 _ _ q => q H1 (Ex.refl H1)
/-- list(xs) -/
theorem el_listOf {p : Addr} {xs : List V} (ha : Ev ta σ H (.ref p)) (h : SqL K H p xs) : EvL (tCB (fun xs H Q => ∃ p ys, xs = [.ref p] ∧ (SqL K H p ys ∨ SqT K H p ys) ∧ ∀ l, H l = none → Q (.ref l) (upd H l (.lst ys))) (tCons ta tNil)) σ H xs := fun H1 e Q q =>
  ha H1 e _ fun H2 e2 => ⟨p, xs, rfl, .inl (ex_l (e.trans e2) h), fun l hl => q l _ (fresh_back e2 hl) (e2.trans (Ex.new hl)) upd_same⟩
/-- a call whose third argument is a new tuple -/
theorem ed_call3U {sp : Sp} {E : XK} {x y : V} {xs : List V} {d : PyData} (h1 : Ev ta σ H x) (h2 : Ev tb σ H y) (h3 : EvU tc σ H xs) (hs : ∀ p H1, Ex H H1 → H1 p = some (.tup xs) → SpD K sp [x, y, .ref p] H1 d) : EvD K (tCall sp [] E (tCons ta (tCons tb (tCons tc tNil)))) σ H d := fun H1 e Q q =>
  h1 H1 e _ fun H2 e2 => h2 H2 (e.trans e2) _ fun H3 e3 => h3 H3 ((e.trans e2).trans e3) _ fun p H4 hp e4 h4 =>
    hs p H4 (((e.trans e2).trans e3).trans e4) h4 H4 (Ex.refl _) Q (fun v H5 e5 hv => q v H5 (((e2.trans e3).trans e4).trans e5) hv) E
end
end KC
set_option Elab.async false
set_option linter.all false
set_option maxRecDepth 100000
set_option maxHeartbeats 4000000
/-! The end of a law: the head's heap, the script, tables of code objects followed as TabX. -/
namespace KC
open PySem PySem.Spec PyProof.Rows L2 GX Evl
def tabO : Obj := { cls := .none, data := .fields #[] }
/-- tables that stand empty in h, out of the frozen part, of known code objects -/
structure Tbs (K : PySem.W.Frag) (h : Heap) (cs : List (Addr × Addr)) : Prop where
  emp : ∀ p ∈ cs, h.get? p.2 = some tabO
  out : ∀ p ∈ cs, K.lookup p.2 = none
  cod : ∀ p ∈ cs, PySem.W.CodeHd h p.1 p.2
structure Hd0 (K : PySem.W.Frag) (mg mb : Str → Option Value) (s : Shared) : Prop where
  kin : K.In s.heap
  glo : s.heap.Ns mainGlobals mg
  blt : s.heap.Ns builtinsNs mb
  boo : ∀ y : Str, y ≠ "__name__" → mb y = bootBuiltins y
  lim : s.heap.NoLimit
  gen : s.gens = #[]
  bmo : ∃ (bm : Addr) (o : Obj), mg "__builtins__" = some (.ref bm) ∧ bm ≠ builtinsNs ∧ s.heap.get? bm = some o ∧ o.cls = .type "module" ∧ o.dict = some builtinsNs ∧ o.data = .plain
/-- the start: the tables, and the script where it is not frozen -/
def H0 (cs : List (Addr × Addr)) (a : Addr) (u : Option HO) : Hp := fun b => if b ∈ cs.map Prod.snd then some (TabX b) else if b = a then u else none
theorem h0_tab {cs : List (Addr × Addr)} {a b : Addr} {u : Option HO} (m : b ∈ cs.map Prod.snd) : H0 cs a u b = some (TabX b) := if_pos m
theorem h0_a {cs : List (Addr × Addr)} {a : Addr} {u : Option HO} (m : a ∉ cs.map Prod.snd) : H0 cs a u a = u := (if_neg m).trans (if_pos rfl)
theorem h0_no {cs : List (Addr × Addr)} {a b : Addr} {u : Option HO} (m : b ∉ cs.map Prod.snd) (n : b ≠ a) : H0 cs a u b = none := (if_neg m).trans (if_neg n)
section
variable {P : Program} {w : World} {K : PySem.W.Frag} {mg mb : Str → Option Value} {CX : CXT} {s : Shared} {cs : List (Addr × Addr)} {a : Addr} {u : Option HO} {vs : List Value}
theorem Tbs.at_ {h : Heap} (T : Tbs K h cs) {b : Addr} (m : b ∈ cs.map Prod.snd) : h.get? b = some tabO := by
  obtain ⟨p, hp, rfl⟩ := List.mem_map.mp m
  exact T.emp p hp
/-- an object that is neither a list nor a table is not followed -/
theorem h0_free (T : Tbs K s.heap cs) (ha : s.heap.get? a = some { cls := .type "list", data := .seq vs.toArray }) {b : Addr} {o : Obj} (e : s.heap.get? b = some o) (d1 : ∀ xs k, o.data ≠ .seq xs k) (d2 : o.data ≠ .fields #[]) : H0 cs a u b = none := by
  refine h0_no (fun m => ?_) fun z => ?_
  · have q := T.at_ m
    rw [e] at q
    exact d2 (by rw [Option.some.inj q] <;> rfl)
  · subst z
    rw [e] at ha
    exact d1 _ _ (congrArg Obj.data (Option.some.inj ha))
theorem dict_free {o : Obj} {es : Array DictEntry} {ep : Nat} (d : o.data = .dict es ep) : (∀ xs k, o.data ≠ .seq xs k) ∧ o.data ≠ .fields #[] := by
  rw [d]
  exact ⟨fun _ _ z => (nomatch z), fun z => (nomatch z)⟩
theorem plain_free {o : Obj} (d : o.data = .plain) : (∀ xs k, o.data ≠ .seq xs k) ∧ o.data ≠ .fields #[] := by
  rw [d]
  exact ⟨fun _ _ z => (nomatch z), fun z => (nomatch z)⟩
/-- the ground under the law's def -/
structure Grd (P : Program) (w : World) (K : PySem.W.Frag) (mg : Str → Option Value) (cs : List (Addr × Addr)) (H : Hp) (s : Shared) : Prop where
  env : Env0 P w K mg (hidT s.heap H) callerA [] s H
  kin : K.In (hidT s.heap H)
  glo : (hidT s.heap H).Ns mainGlobals mg
  tab : ∀ p ∈ cs, GxR.TabB (hidT s.heap H) mg p.1 p.2
theorem grd_of (D : Hd0 K mg mb s) (T : Tbs K s.heap cs) (ha : s.heap.get? a = some { cls := .type "list", data := .seq vs.toArray }) (hu : u ≠ none → K.lookup a = none) (ok : HOk P w (H0 cs a u) s.heap) : Grd P w K mg cs (H0 cs a u) s := by
  have down : ∀ {b : Addr} {o : Obj}, s.heap.get? b = some o → (∀ xs k, o.data ≠ .seq xs k) ∧ o.data ≠ .fields #[] → (hidT s.heap (H0 cs a u)).get? b = some o := fun e d => hidT_get e (h0_free T ha e d.1 d.2)
  have ns : ∀ {b : Addr} {m : Str → Option Value}, s.heap.Ns b m → (hidT s.heap (H0 cs a u)).Ns b m := fun x => by
    obtain ⟨o, es, ep, e, d, r⟩ := x
    exact ⟨o, es, ep, down e (dict_free d), d, r⟩
  have kin : K.In (hidT s.heap (H0 cs a u)) := fun b o e => by
    refine hidT_get (D.kin b o e) ?_
    by_cases m : b ∈ cs.map Prod.snd
    · obtain ⟨p, hp, rfl⟩ := List.mem_map.mp m
      rw [T.out p hp] at e
      cases e
    · by_cases z : b = a
      · subst z
        rw [h0_a m]
        cases hu1 : u with
        | none => rfl
        | some v =>
          rw [hu (by rw [hu1]; exact Option.some_ne_none v)] at e
          cases e
      · exact h0_no m z
  refine ⟨⟨rfl, ⟨kin, ns D.glo, ⟨mb, ns D.blt, D.boo⟩, ?_⟩, fun b o e => of_hidT e, Nat.le_of_eq (hidT_size _ _), trivial, fun b hb => absurd (show b ∈ ([] : List Addr) from hb) List.not_mem_nil, ok, .of_eq D.gen⟩, kin, ns D.glo, fun p hp => ⟨?_, ?_, fun z => ?_⟩⟩
  · obtain ⟨mc, n1, n2⟩ := D.lim
    exact ⟨mc, ns n1, n2⟩
  · obtain ⟨o, us, f1, f2, f3, f4, f5, f6, f7, e, c1, c2, c3, rest⟩ := T.cod p hp
    refine ⟨o, us, f1, f2, f3, f4, f5, f6, f7, down e ?_, c1, c2, c3, rest⟩
    rw [c2]
    refine ⟨fun _ _ z => (nomatch z), fun z => ?_⟩
    have z' : us = #[] := by injection z
    rw [z'] at c3
    simp at c3
  · obtain ⟨bm, o, b1, b2, b3, b4, b5, b6⟩ := D.bmo
    have g1 : bm ≠ mainGlobals := fun z => by
      obtain ⟨og, es, ep, e, d, _⟩ := D.glo
      rw [← z, b3] at e
      rw [← Option.some.inj e, b6] at d
      cases d
    have g2 : bm ≠ p.2 := fun z => by
      have q := T.emp p hp
      rw [← z, b3] at q
      rw [Option.some.inj q] at b6
      cases b6
    exact ⟨bm, o, b1, b2, g1, g2, down b3 (plain_free b6), b4, b5, b6⟩
  · obtain ⟨og, es, ep, e, d, _⟩ := D.glo
    have q := T.emp p hp
    rw [← z, e] at q
    rw [Option.some.inj q] at d
    cases d
/-- the law is called with its script -/
theorem law_callX {k : Nat} {fa : Addr} {fd : FuncData} {x : Str} {sp : Sp} {ns : List Int} (D : Hd0 K mg mb s) (T : Tbs K s.heap cs) (ha : s.heap.get? a = some { cls := .type "list", data := .seq vs.toArray }) (hi : IntsAre vs ns) (hl : ns.length ≤ sizeLine) (hr : Room k callerA)
    (ok : ∀ base : Heap, K.In base → base.Ns mainGlobals mg → (∀ p ∈ cs, GxR.TabB base mg p.1 p.2) → FnOk P w K mg base CX k fa fd [x] sp) (bd : ∀ (s : Shared) (v : Value), BindsTo s fd ⟨[v], []⟩ [(x, v)])
    (hsp : ∀ H : Hp, (∀ p ∈ cs, H p.2 = some (TabX p.2)) → SqL K H a (ns.map V.int) → sp [.ref a] H (fun v H' => v = .bl true ∧ ∀ p ∈ cs, H' p.2 = some (TabX p.2)) fun _ _ _ => False)
    (hx : ∀ H e s', CX [] H s (fun _ _ _ => False) e s' → False) :
    codeAny (model P w) callerA (.call (.ref fa) ⟨[.ref a], []⟩) (fun r s' => r = .ok (.ret (.bool true)) ∧ OldK s.heap s'.heap ∧ s'.os = s.os ∧ AllBare s'.gens) s := by
  have rv := vals_ints hi
  have anot : a ∉ cs.map Prod.snd := fun m => by
    have q := T.at_ m
    rw [ha] at q
    have q2 := congrArg Obj.data (Option.some.inj q)
    cases q2
  have tabs : ∀ {u : Option HO}, ∀ p ∈ cs, H0 cs a u p.2 = some (TabX p.2) := fun p hp => h0_tab (List.mem_map.mpr ⟨p, hp, rfl⟩)
  -- whatever is followed of the script
  have go : ∀ u : Option HO, (u = none ∨ u = some (.frz { cls := .type "list", data := .seq vs.toArray } (.lst (ns.map V.int)))) → (u ≠ none → K.lookup a = none) → SqL K (H0 cs a u) a (ns.map V.int) →
      codeAny (model P w) callerA (.call (.ref fa) ⟨[.ref a], []⟩) (fun r s' => r = .ok (.ret (.bool true)) ∧ OldK s.heap s'.heap ∧ s'.os = s.os ∧ AllBare s'.gens) s := fun u hu hk hs => by
    have hok : HOk P w (H0 cs a u) s.heap := fun b o e => by
      by_cases m : b ∈ cs.map Prod.snd
      · rw [h0_tab m] at e
        cases e
        exact tabx_ok (T.at_ m) (show TriplesOk [] from trivial)
      · by_cases z : b = a
        · subst z
          rw [h0_a m] at e
          rcases hu with rfl | rfl
          · cases e
          · cases e
            exact ⟨ha, by rw [List.length_map]; exact hl, vs, 0, rv, ha⟩
        · rw [h0_no m z] at e
          cases e
    have G := grd_of (u := u) D T ha hk hok
    refine codeAny_mono ((ok _ G.kin G.glo G.tab).run callerA [] s _ ⟨[.ref a], []⟩ [.ref a] [.ref a] _ _ hr G.env (bd s (.ref a)) (.cons rfl .nil) (hsp _ tabs hs)) fun r s' h => ?_
    match r, h with
    | .error e, h => exact (hx _ e s' h).elim
    | .ok .next, h => exact False.elim h
    | .ok .brk, h => exact False.elim h
    | .ok .cont, h => exact False.elim h
    | .ok (.ret v0), h =>
      obtain ⟨v, H', os, bare, un, hok', r', q, qt⟩ := h
      subst q
      obtain rfl : v0 = Value.bool true := r'
      have same : ∀ b o, b ∉ cs.map Prod.snd → s.heap.get? b = some o → s'.heap.get? b = some o := fun b o m e => by
        by_cases z : b = a
        · subst z
          rcases hu with rfl | rfl
          · exact un.keep b o e (h0_a m) List.not_mem_nil List.not_mem_nil
          · have f2 := hok' b _ (un.frzs b _ _ (h0_a m))
            rw [ha] at e
            rw [← Option.some.inj e]
            exact f2.1
        · exact un.keep b o e (h0_no m z) List.not_mem_nil List.not_mem_nil
      have grew : ∀ p ∈ cs, ∃ more : Array Value, s'.heap.get? p.2 = some { cls := .none, data := .fields more } := fun p hp => by
        obtain ⟨⟨more, e, _⟩, _⟩ := hok' p.2 _ (qt p hp)
        exact ⟨more, e⟩
      refine ⟨rfl, ⟨fun b o e => ?_, fun b o e => ?_⟩, os, bare⟩
      · by_cases m : b ∈ cs.map Prod.snd
        · obtain ⟨p, hp, rfl⟩ := List.mem_map.mp m
          obtain ⟨more, g⟩ := grew p hp
          have eo : o = tabO := Option.some.inj (e.symm.trans (T.emp p hp))
          subst eo
          exact .inr (.inl ⟨((T.cod p hp).tab (ps := #[]) (T.emp p hp)).isCodeTable, rfl, #[], more, rfl, by rw [Array.empty_append]; exact g⟩)
        · exact .inl (same b o m e)
      · by_cases m : b ∈ cs.map Prod.snd
        · obtain ⟨p, hp, rfl⟩ := List.mem_map.mp m
          obtain ⟨more, g⟩ := grew p hp
          exact ⟨_, g⟩
        · exact ⟨o, same b o m e⟩
  cases hk : K.lookup a with
  | none => exact go _ (.inr rfl) (fun _ => hk) (.inl (.inr ⟨_, h0_a anot⟩))
  | some o =>
    have e := (D.kin a o hk).symm.trans ha
    have eo := Option.some.inj e
    subst eo
    exact go none (.inl rfl) (fun z => absurd rfl z) (.inr ⟨_, vs.toArray, _, hk, rfl, rfl, rfl, by rw [List.size_toArray, hi.length]; exact hl, by simpa using rv⟩)
end
/-- what the head's defs have: their code objects, with empty tables -/
def Rec0 (q : Program) (mg : Str → Option Value) (h : Heap) : Prop := ∀ d ∈ recsOf q, ∃ a o fd c P, mg d.name = some (.ref a) ∧ h.get? a = some o ∧ o.data = .func fd ∧ fd.code = .ref c ∧ h.IsCode c P #[] ∧ h.TableAt c P #[]
theorem tab_emp {q : Program} {mg : Str → Option Value} {h : Heap} {K : PySem.W.Frag} (R : Rec0 q mg h) (X : K.In h) {nm : Str} {f c Pt : Addr} {fd : FuncData} {e : Value} {dd : Option Addr} {sl : Array (Option Value)}
    (hrec : ((recsOf q).any fun e => e.name == nm) = true) (hm : mg nm = some (.ref f)) (hk : K.lookup f = some ⟨e, dd, .func fd, sl⟩) (hc : fd.code = .ref c) (C : PySem.W.CodeHd h c Pt) : h.get? Pt = some tabO := by
  obtain ⟨d, hd, hn⟩ := List.any_eq_true.mp hrec
  obtain ⟨f1, o1, fd1, c1, P1, e1, e2, e3, e4, _, ⟨⟨oc, vc, g1, _, g3, g4⟩, g5⟩⟩ := R d hd
  rw [beq_iff_eq.mp hn, hm] at e1
  have ef : f = f1 := Value.ref.inj (Option.some.inj e1)
  subst ef
  rw [X f _ hk] at e2
  have eo := Option.some.inj e2
  subst eo
  have efd : fd = fd1 := by injection e3
  subst efd
  rw [hc] at e4
  have ec : c = c1 := Value.ref.inj e4
  subst ec
  obtain ⟨o2, us, _, _, _, _, _, _, _, k1, _, k2, k3, _⟩ := C
  rw [k1] at g1
  have eo2 := Option.some.inj g1
  subst eo2
  rw [k2] at g3
  have eu : us = vc := by injection g3
  subst eu
  rw [k3] at g4
  have eP : Pt = P1 := Value.ref.inj (Option.some.inj g4)
  subst eP
  exact g5
def LawX (l : PySem.W.OpenLaw) (w : World) (K : PySem.W.Frag) (CX : CXT) (k n : Nat) (x : Str) (mg : Str → Option Value) (fa : Addr) (h : Heap) : Prop :=
  ∃ (fd : FuncData) (cs : List (Addr × Addr)) (sp : Sp), Tbs K h cs ∧ (∀ (s : Shared) (v : Value), BindsTo s fd ⟨[v], []⟩ [(x, v)]) ∧
    (∀ (H : Hp) (a : Addr) (ns : List Int), ns.length ≤ n → (∀ z ∈ ns, Builtin.Int.intBits z ≤ 1048576) → (∀ p ∈ cs, H p.2 = some (TabX p.2)) → SqL K H a (ns.map V.int) → sp [.ref a] H (fun v H' => v = .bl true ∧ ∀ p ∈ cs, H' p.2 = some (TabX p.2)) fun _ _ _ => False) ∧
    ∀ base : Heap, K.In base → base.Ns mainGlobals mg → (∀ p ∈ cs, GxR.TabB base mg p.1 p.2) → FnOk l.prog w K mg base CX k fa fd [x] sp
theorem walk_X {l : PySem.W.OpenLaw} {n k : Nat} {q : Program} {loose : List Str} {XP : (Str → Option Value) → Heap → Prop} {YP : World → Heap → Prop} {d : DefRec} {Kf : Params → PySem.W.Frag} {CX : World → CXT} {x : Str}
    (h1 : l.most = some n) (h2 : n ≤ sizeLine) (h3 : d.params.defaults = []) (h4 : Room k callerA) (h5 : ∀ (w : World) (h : Heap), YP w h → (Kf w.params).In h)
    (F : ∀ (w : World) (mg : Str → Option Value) (fa : Addr) (h : Heap), YP w h → (Kf w.params).In h → h.Ns mainGlobals mg → mg d.name = some (.ref fa) → Rec0 q mg h → LawX l w (Kf w.params) (CX w) k n x mg fa h)
    (h6 : ∀ (w : World) (H : Hp) (s : Shared) (e : Value) (s' : Shared), CX w [] H s (fun _ _ _ => False) e s' → False) :
    PySem.W.WalkO q loose XP YP l.row.toRowW d [] (fun f vs => PySem.call f vs) := by
  refine Att.attach_callB h1 h3 fun w _ s₁ mg mb fa o pm cd doc a vs ns G Y _ _ _ hmg hobj hints hlen hbits hg => ?_
  have X := h5 w _ Y
  obtain ⟨fd, cs, sp, T, bd, hsp, ok⟩ := F w mg fa _ Y X G.T.g hmg G.T.tab
  exact law_callX ⟨X, G.T.g, G.T.b, G.T.builtins, G.T.nolimit, hg, G.T.bmain⟩ T hobj hints (Nat.le_trans hlen h2) h4 ok bd (fun H hT hS => hsp H a ns hlen hbits hT hS) fun H e s' => h6 w H s₁ e s'
end KC
set_option linter.all false
/-! The mathematics of ranks, rests and choices: plain lists. -/
namespace M03
def wAt (ws : List Int) (k : Nat) : Int := ws.getD k 0
/-- k comes before j -/
def Rk (ws : List Int) (k j : Nat) : Prop := wAt ws j < wAt ws k ∨ (wAt ws k = wAt ws j ∧ k < j)
structure IsRank (ws : List Int) (ord : List Nat) : Prop where
  pw : ord.Pairwise (Rk ws)
  mem : ∀ k, k ∈ ord ↔ k < ws.length
theorem Rk.irrefl {ws : List Int} {k : Nat} (h : Rk ws k k) : False := by
  unfold Rk at h; omega
theorem Rk.asymm {ws : List Int} {k j : Nat} (h : Rk ws k j) (h2 : Rk ws j k) : False := by
  unfold Rk at h h2; omega
theorem Rk.trans {ws : List Int} {k j i : Nat} (h : Rk ws k j) (h2 : Rk ws j i) : Rk ws k i := by
  unfold Rk at *; omega
theorem Rk.total {ws : List Int} {k j : Nat} (h : k ≠ j) : Rk ws k j ∨ Rk ws j k := by
  unfold Rk; omega
theorem uniq (ws : List Int) : ∀ (a b : List Nat), a.Pairwise (Rk ws) → b.Pairwise (Rk ws) → (∀ k, k ∈ a ↔ k ∈ b) → a = b
  | [], [], _, _, _ => rfl
  | [], y :: b, _, _, h => absurd ((h y).mpr List.mem_cons_self) (by simp)
  | x :: a, [], _, _, h => absurd ((h x).mp List.mem_cons_self) (by simp)
  | x :: a, y :: b, ha, hb, h => by
    have ha' := List.pairwise_cons.mp ha
    have hb' := List.pairwise_cons.mp hb
    have e : x = y := by
      rcases List.mem_cons.mp ((h x).mp List.mem_cons_self) with e | e
      · exact e
      · rcases List.mem_cons.mp ((h y).mpr List.mem_cons_self) with e2 | e2
        · exact e2.symm
        · exact (Rk.asymm (hb'.1 x e) (ha'.1 y e2)).elim
    subst e
    rw [uniq ws a b ha'.2 hb'.2 fun k => ?_]
    constructor
    · intro hk
      rcases List.mem_cons.mp ((h k).mp (List.mem_cons_of_mem _ hk)) with e | e
      · subst e; exact (Rk.irrefl (ha'.1 _ hk)).elim
      · exact e
    · intro hk
      rcases List.mem_cons.mp ((h k).mpr (List.mem_cons_of_mem _ hk)) with e | e
      · subst e; exact (Rk.irrefl (hb'.1 _ hk)).elim
      · exact e
theorem IsRank.uniq {ws : List Int} {a b : List Nat} (ha : IsRank ws a) (hb : IsRank ws b) : a = b := M03.uniq ws a b ha.pw hb.pw fun k => (ha.mem k).trans (hb.mem k).symm
def leK (ws : List Int) (k j : Nat) : Bool := decide (wAt ws j < wAt ws k ∨ (wAt ws k = wAt ws j ∧ k ≤ j))
def rankL (ws : List Int) : List Nat := (List.range ws.length).mergeSort (leK ws)
theorem rank_perm (ws : List Int) : (rankL ws).Perm (List.range ws.length) := List.mergeSort_perm _ _
theorem rank_is (ws : List Int) : IsRank ws (rankL ws) := by
  refine ⟨?_, fun k => ?_⟩
  · have h1 : (rankL ws).Pairwise fun a b => leK ws a b = true := List.pairwise_mergeSort (fun a b c => by unfold leK; simp only [decide_eq_true_eq]; omega) (fun a b => by unfold leK; simp only [Bool.or_eq_true, decide_eq_true_eq]; omega) _
    have h2 : (rankL ws).Nodup := (rank_perm ws).nodup_iff.mpr List.nodup_range
    have h3 := h1.and h2
    refine h3.imp fun {a b} h => ?_
    obtain ⟨h4, h5⟩ := h
    unfold leK at h4
    unfold Rk
    have h6 := of_decide_eq_true h4
    have h7 : a ≠ b := h5
    omega
  · rw [(rank_perm ws).mem_iff, List.mem_range]
theorem rank_len (ws : List Int) : (rankL ws).length = ws.length := by rw [(rank_perm ws).length_eq, List.length_range]
theorem rank_lt {ws : List Int} {k : Nat} (h : k ∈ rankL ws) : k < ws.length := ((rank_is ws).mem k).mp h
/-- choosing the best of the rest again and again -/
structure Part (ws : List Int) (ord : List Nat) : Prop where
  pw : ord.Pairwise (Rk ws)
  lt : ∀ k ∈ ord, k < ws.length
  before : ∀ k ∈ ord, ∀ j, j < ws.length → j ∉ ord → Rk ws k j
theorem Part.nil (ws : List Int) : Part ws [] := ⟨.nil, by simp, by simp⟩
/-- b: the best among the first i that ord has not -/
def Best (ws : List Int) (ord : List Nat) (i : Nat) : Option Nat → Prop
  | none => ∀ j, j < i → j ∈ ord
  | some b => b < i ∧ b ∉ ord ∧ ∀ j, j < i → j ∉ ord → j ≠ b → Rk ws b j
theorem Part.add {ws : List Int} {ord : List Nat} {b : Nat} (p : Part ws ord) (h : Best ws ord ws.length (some b)) : Part ws (ord ++ [b]) := by
  obtain ⟨h1, h2, h3⟩ := h
  refine ⟨List.pairwise_append.mpr ⟨p.pw, List.pairwise_singleton _ _, fun a ha c hc => ?_⟩, fun k hk => ?_, fun k hk j hj hn => ?_⟩
  · rw [List.mem_singleton.mp hc]
    exact p.before a ha b h1 h2
  · rcases List.mem_append.mp hk with h | h
    · exact p.lt k h
    · rw [List.mem_singleton.mp h]; exact h1
  · have hn1 : j ∉ ord := fun z => hn (List.mem_append_left _ z)
    have hn2 : j ≠ b := fun z => hn (by rw [z]; exact List.mem_append_right _ (List.mem_singleton.mpr rfl))
    rcases List.mem_append.mp hk with h | h
    · exact p.before k h j hj hn1
    · rw [List.mem_singleton.mp h]
      exact h3 j hj hn1 hn2
theorem nodup_sub : ∀ (l m : List Nat), l.Nodup → (∀ x ∈ l, x ∈ m) → l.length ≤ m.length
  | [], _, _, _ => Nat.zero_le _
  | x :: l, m, h, hs => by
    have h' := List.nodup_cons.mp h
    have hx := hs x List.mem_cons_self
    have h1 := nodup_sub l (m.erase x) h'.2 fun y hy => (List.mem_erase_of_ne (fun e => h'.1 (by rw [← e]; exact hy))).mpr (hs y (List.mem_cons_of_mem _ hy))
    rw [List.length_erase_of_mem hx] at h1
    have h2 := List.length_pos_of_mem hx
    simp only [List.length_cons]
    omega
theorem nodup_le {ord : List Nat} {n : Nat} (h : ord.Nodup) (hl : ∀ k ∈ ord, k < n) : ord.length ≤ n := by
  have h2 := nodup_sub ord (List.range n) h fun k hk => List.mem_range.mpr (hl k hk)
  rwa [List.length_range] at h2
theorem Part.nodup {ws : List Int} {ord : List Nat} (p : Part ws ord) : ord.Nodup := p.pw.imp fun {a b} h e => by subst e; exact h.irrefl
/-- a best one is there while ord is not whole -/
theorem Part.some {ws : List Int} {ord : List Nat} (p : Part ws ord) (h : ord.length < ws.length) {o : Option Nat} (hb : Best ws ord ws.length o) : ∃ b, o = .some b := by
  cases o with
  | some b => exact ⟨b, rfl⟩
  | none =>
    have h2 := nodup_sub (List.range ws.length) ord List.nodup_range fun k hk => hb k (List.mem_range.mp hk)
    rw [List.length_range] at h2
    omega
theorem Part.whole {ws : List Int} {ord : List Nat} (p : Part ws ord) (h : ord.length = ws.length) : ord = rankL ws := by
  refine IsRank.uniq ⟨p.pw, fun k => ⟨p.lt k, fun hk => ?_⟩⟩ (rank_is ws)
  by_cases hm : k ∈ ord
  · exact hm
  · exfalso
    have h2 : (k :: ord).Nodup := List.nodup_cons.mpr ⟨hm, p.nodup⟩
    have h3 := nodup_le h2 (n := ws.length) fun j hj => by
      rcases List.mem_cons.mp hj with e | e
      · rw [e]; exact hk
      · exact p.lt j e
    simp only [List.length_cons] at h3
    omega
theorem Best.zero (ws : List Int) (ord : List Nat) : Best ws ord 0 none := fun j h => absurd h (Nat.not_lt_zero j)
theorem Best.skip {ws : List Int} {ord : List Nat} {i : Nat} {o : Option Nat} (h : Best ws ord i o) (hi : i ∈ ord) : Best ws ord (i + 1) o := by
  cases o with
  | none =>
    intro j hj
    by_cases e : j = i
    · rw [e]; exact hi
    · exact h j (by omega)
  | some b =>
    obtain ⟨h1, h2, h3⟩ := h
    refine ⟨by omega, h2, fun j hj hn hb => ?_⟩
    by_cases e : j = i
    · rw [e] at hn; exact absurd hi hn
    · exact h3 j (by omega) hn hb
theorem Best.first {ws : List Int} {ord : List Nat} {i : Nat} (h : Best ws ord i none) (hi : i ∉ ord) : Best ws ord (i + 1) (some i) := by
  refine ⟨by omega, hi, fun j hj hn hb => ?_⟩
  exact absurd (h j (by omega)) hn
theorem Best.take {ws : List Int} {ord : List Nat} {i b : Nat} (h : Best ws ord i (some b)) (hi : i ∉ ord) (hw : wAt ws b < wAt ws i) : Best ws ord (i + 1) (some i) := by
  obtain ⟨h1, h2, h3⟩ := h
  refine ⟨by omega, hi, fun j hj hn hb => ?_⟩
  by_cases e : j = b
  · rw [e]; exact .inl hw
  · have := h3 j (by omega) hn e
    exact Rk.trans (.inl hw) this
theorem Best.keep {ws : List Int} {ord : List Nat} {i b : Nat} (h : Best ws ord i (some b)) (hw : ¬ wAt ws b < wAt ws i) : Best ws ord (i + 1) (some b) := by
  obtain ⟨h1, h2, h3⟩ := h
  refine ⟨by omega, h2, fun j hj hn hb => ?_⟩
  by_cases e : j = i
  · rw [e]; unfold Rk; omega
  · exact h3 j (by omega) hn hb

/-! ### rests -/
def restL : List Int → List Int
  | [] => [0]
  | v :: r => (v + (restL r).headD 0) :: restL r
theorem restL_len : ∀ vs : List Int, (restL vs).length = vs.length + 1
  | [] => rfl
  | v :: r => by simp [restL, restL_len r]
def ranked (ws : List Int) : List Int := (rankL ws).map (wAt ws)
theorem ranked_len (ws : List Int) : (ranked ws).length = ws.length := by simp [ranked, rank_len]
theorem ranked_perm (ws : List Int) : (ranked ws).Perm ws := by
  have h := (rank_perm ws).map (wAt ws)
  have e : (List.range ws.length).map (wAt ws) = ws := by
    refine List.ext_getElem (by simp) fun i h1 h2 => ?_
    simp [wAt, List.getD_eq_getElem?_getD, h2]
  rw [e] at h
  exact h
theorem ranked_desc (ws : List Int) : (ranked ws).Pairwise (fun a b => b ≤ a) := by
  unfold ranked
  refine List.pairwise_map.mpr ((rank_is ws).pw.imp fun {a b} h => ?_)
  unfold Rk at h
  omega
theorem sorted_uniq : ∀ (a b : List Int), a.Pairwise (· ≤ ·) → b.Pairwise (· ≤ ·) → a.Perm b → a = b
  | [], b, _, _, h => (List.Perm.nil_eq h)
  | x :: a, [], _, _, h => absurd h.length_eq (by simp)
  | x :: a, y :: b, ha, hb, h => by
    have ha' := List.pairwise_cons.mp ha
    have hb' := List.pairwise_cons.mp hb
    have e : x = y := by
      have h1 : x ≤ y := by
        rcases List.mem_cons.mp (h.mem_iff.mpr (List.mem_cons_self (a := y) (l := b))) with e | e
        · omega
        · exact ha'.1 y e
      have h2 : y ≤ x := by
        rcases List.mem_cons.mp (h.mem_iff.mp (List.mem_cons_self (a := x) (l := a))) with e | e
        · omega
        · exact hb'.1 x e
      omega
    subst e
    rw [sorted_uniq a b ha'.2 hb'.2 h.cons_inv]
theorem asc_is {ws asc : List Int} (h : asc.Perm ws) (hs : asc.Pairwise (· ≤ ·)) : asc = (ranked ws).reverse := by
  refine sorted_uniq _ _ hs (List.pairwise_reverse.mpr (ranked_desc ws)) ?_
  exact h.trans ((ranked_perm ws).symm.trans (List.reverse_perm _).symm)
/-- sums of the beginnings -/
def pre : List Int → List Int
  | [] => [0]
  | v :: r => 0 :: (pre r).map (v + ·)
def sumsA : List Int → List Int → List Int := fun acc vs => vs.foldl (fun acc v => acc ++ [acc.getLastD 0 + v]) acc
theorem restL_snoc : ∀ (vs : List Int), ∀ l, l = vs.reverse → ∀ v, restL (v :: vs) = (v + (restL vs).headD 0) :: restL vs := fun _ _ _ _ => rfl
/-! ### the choices -/
abbrev Nxt := Option (Int × Int × Int)
def chOne (sums : List Int) (limit depth m k : Int) (a : Nat) : Option (Int × Int × Nxt) :=
  let n : Int := (sums.length : Int) - 1
  let ok : Bool := if depth = limit then decide ((a : Int) = n - m) else (decide (0 < depth) || decide ((a : Int) = 0))
  if ok && decide (m + a = n) then some (a, 0, none)
  else if ok && decide ((a : Int) < k) then some (a, sums.getD (m + a).toNat 0, some (depth + 1, m + a, if n - m - a < 2 * (k - a) then n - m - a else 2 * (k - a)))
  else none
def chN (sums : List Int) (m k : Int) : Nat := ((if (sums.length : Int) - 1 - m < k then (sums.length : Int) - 1 - m else k) + 1).toNat
def chL (sums : List Int) (limit depth m k : Int) : List (Int × Int × Nxt) := (List.range (chN sums m k)).filterMap (chOne sums limit depth m k)
end M03
set_option linter.all false
namespace M03
def llimAt (many : Nat) : Nat → Nat
  | 0 => 1
  | i + 1 => if 2 ^ llimAt many i < many then llimAt many i + 1 else llimAt many i
theorem llimAt_le (many : Nat) : ∀ i, 1 ≤ llimAt many i ∧ llimAt many i ≤ i + 1
  | 0 => ⟨Nat.le_refl _, Nat.le_refl _⟩
  | i + 1 => by
    have h := llimAt_le many i
    unfold llimAt
    split <;> omega
def llim (many : Nat) : Nat := llimAt many 6
def sumsL (ws : List Int) : List Int := restL (ranked ws)
theorem restL_get0 (vs : List Int) : (restL vs).getD 0 0 = (restL vs).headD 0 := by
  cases vs <;> rfl
theorem sumsL_len (ws : List Int) : (sumsL ws).length = ws.length + 1 := by rw [sumsL, restL_len, ranked_len]
theorem drop_step {vs : List Int} {i : Nat} (h : i < vs.length) : restL (vs.drop i) = (vs.getD i 0 + (restL (vs.drop (i + 1))).headD 0) :: restL (vs.drop (i + 1)) := by
  rw [List.drop_eq_getElem_cons h]
  show (vs[i] + _) :: _ = _
  rw [List.getD_eq_getElem?_getD, List.getElem?_eq_getElem h]
  rfl
theorem ranked_at {ws : List Int} {i : Nat} (h : i < ws.length) : (ranked ws).getD i 0 = wAt ws ((rankL ws).getD i 0) := by
  have h1 : i < (rankL ws).length := by rw [rank_len]; exact h
  unfold ranked
  rw [List.getD_eq_getElem?_getD, List.getElem?_map, List.getD_eq_getElem?_getD, List.getElem?_eq_getElem h1]
  rfl
/-- the sums grow from the least weight on -/
theorem asc_step (vs : List Int) (i : Nat) (h : i < vs.length) : (restL (vs.reverse.drop (vs.length - (i + 1)))).reverse = (restL (vs.reverse.drop (vs.length - i))).reverse ++ [((restL (vs.reverse.drop (vs.length - i))).reverse).getLastD 0 + vs.getD i 0] := by
  have h1 : vs.length - (i + 1) < vs.reverse.length := by rw [List.length_reverse]; omega
  have e1 := drop_step h1
  have e2 : vs.length - (i + 1) + 1 = vs.length - i := by omega
  rw [e2] at e1
  rw [e1, List.reverse_cons]
  congr 1
  have e3 : vs.reverse.getD (vs.length - (i + 1)) 0 = vs.getD i 0 := by
    rw [List.getD_eq_getElem?_getD, List.getD_eq_getElem?_getD, List.getElem?_reverse (by omega)]
    congr 2
    omega
  rw [e3]
  generalize restL (vs.reverse.drop (vs.length - i)) = L
  have e4 : L.reverse.getLastD 0 = L.headD 0 := by
    cases L <;> simp
  rw [e4, Int.add_comm]
/-- what the program counts at a stage -/
def wc (limit depth free left : Int) : List Int :=
  if depth = 0 then [0] else if limit ≤ depth then (if left ≤ free then [left] else []) else (List.range ((if left < free then left else free) + 1).toNat).map fun (i : Nat) => (i : Int)
def chOf (sums : List Int) (depth m free : Int) (a : Int) : Option (Int × Int × Nxt) :=
  let left : Int := (sums.length : Int) - 1 - m
  if a = left then some (a, 0, none)
  else if a ≠ free then some (a, sums.getD (m + a).toNat 0, some (depth + 1, m + a, if left - a < 2 * (free - a) then left - a else 2 * (free - a)))
  else none
def chP (sums : List Int) (limit depth m free : Int) : List (Int × Int × Nxt) := (wc limit depth free ((sums.length : Int) - 1 - m)).filterMap (chOf sums depth m free)
/-- a stage -/
structure StOk (sums : List Int) (limit depth m k : Int) : Prop where
  l : 1 ≤ limit
  d : 0 ≤ depth ∧ depth ≤ limit
  m : 0 ≤ m ∧ m < (sums.length : Int) - 1
  k : 1 ≤ k
theorem filterMap_single {α β : Type} (f : α → Option β) (l : List α) (a : α) (hm : a ∈ l) (hn : l.Nodup) (h : ∀ b ∈ l, b ≠ a → f b = none) : l.filterMap f = (f a).toList := by
  induction l with
  | nil => simp at hm
  | cons x r ih =>
    have hn' := List.nodup_cons.mp hn
    by_cases e : x = a
    · subst e
      have h2 : r.filterMap f = [] := by
        rw [List.filterMap_eq_nil_iff]
        intro b hb
        exact h b (List.mem_cons_of_mem _ hb) fun z => hn'.1 (by rw [← z]; exact hb)
      rw [List.filterMap_cons, h2]
      cases f x <;> rfl
    · have hm' : a ∈ r := by
        rcases List.mem_cons.mp hm with z | z
        · exact absurd z.symm e
        · exact z
      rw [List.filterMap_cons, h x List.mem_cons_self e, ih hm' hn'.2 fun b hb => h b (List.mem_cons_of_mem _ hb)]
theorem fm_congr {α β : Type} {f g : α → Option β} : ∀ {l : List α}, (∀ a ∈ l, f a = g a) → l.filterMap f = l.filterMap g
  | [], _ => rfl
  | x :: r, h => by
    rw [List.filterMap_cons, List.filterMap_cons, h x List.mem_cons_self, fm_congr fun a ha => h a (List.mem_cons_of_mem _ ha)]
theorem ch_same {sums : List Int} {limit depth m k : Int} (h : StOk sums limit depth m k) : chP sums limit depth m k = chL sums limit depth m k := by
  obtain ⟨hl, hd, hm, hk⟩ := h
  unfold chP chL
  generalize hn : (sums.length : Int) - 1 = n at *
  have hN : chN sums m k = ((if n - m < k then n - m else k) + 1).toNat := by unfold chN; rw [hn]
  have one : ∀ a : Nat, chOne sums limit depth m k a = if (if depth = limit then decide ((a : Int) = n - m) else (decide (0 < depth) || decide ((a : Int) = 0))) && decide (m + a = n) then some ((a : Int), 0, none)
      else if (if depth = limit then decide ((a : Int) = n - m) else (decide (0 < depth) || decide ((a : Int) = 0))) && decide ((a : Int) < k) then some ((a : Int), sums.getD (m + a).toNat 0, some (depth + 1, m + a, if n - m - a < 2 * (k - a) then n - m - a else 2 * (k - a))) else none := fun a => by
    unfold chOne; rw [hn]
  have two : ∀ a : Int, chOf sums depth m k a = if a = n - m then some (a, 0, none) else if a ≠ k then some (a, sums.getD (m + a).toNat 0, some (depth + 1, m + a, if n - m - a < 2 * (k - a) then n - m - a else 2 * (k - a))) else none := fun a => by
    unfold chOf; rw [hn]
  unfold wc
  by_cases h0 : depth = 0
  · rw [if_pos h0]
    have hdl : depth ≠ limit := by omega
    rw [filterMap_single (chOne sums limit depth m k) (List.range (chN sums m k)) 0 (List.mem_range.mpr (by rw [hN]; split <;> omega)) List.nodup_range fun b hb hb0 => ?_]
    · have e3 : chOf sums depth m k 0 = chOne sums limit depth m k 0 := by
        rw [one, two]
        rw [if_neg (by omega : ¬ ((0 : Int) = n - m)), if_pos (by omega : (0 : Int) ≠ k), if_neg hdl]
        have a1 : (((decide (0 < depth) || decide (((0 : Nat) : Int) = 0)) && decide (m + ((0 : Nat) : Int) = n)) = true) = False := by
          simp only [Bool.and_eq_true, decide_eq_true_eq, eq_iff_iff, iff_false]
          omega
        have a2 : (((decide (0 < depth) || decide (((0 : Nat) : Int) = 0)) && decide (((0 : Nat) : Int) < k)) = true) = True := by
          simp only [Bool.and_eq_true, Bool.or_eq_true, decide_eq_true_eq, eq_iff_iff, iff_true]
          omega
        simp only [a1, a2, if_false, if_true]
        rfl
      rw [List.filterMap_cons, e3]
      cases chOne sums limit depth m k 0 <;> rfl
    · rw [one]
      have e2 : ((b : Int) = 0) = False := by
        rw [eq_iff_iff, iff_false]; omega
      have e3 : (0 < depth) = False := by
        rw [eq_iff_iff, iff_false]; omega
      simp only [hdl, if_false, e2, e3, decide_false, Bool.or_false, Bool.false_and, Bool.false_eq_true]
  · rw [if_neg h0]
    by_cases h1 : limit ≤ depth
    · have hdl : depth = limit := by omega
      subst hdl
      rw [if_pos h1]
      by_cases h2 : n - m ≤ k
      · rw [if_pos h2, filterMap_single (chOne sums depth depth m k) (List.range (chN sums m k)) (n - m).toNat (List.mem_range.mpr (by rw [hN]; split <;> omega)) List.nodup_range fun b hb hb0 => ?_]
        · have e1 : (((n - m).toNat : Nat) : Int) = n - m := by omega
          rw [one, e1]
          have e2 : m + (n - m) = n := by omega
          simp [e2, two]
        · rw [one]
          have e1 : ¬ ((b : Int) = n - m) := by omega
          simp [e1]
      · rw [if_neg h2, List.filterMap_nil]
        symm
        rw [List.filterMap_eq_nil_iff]
        intro b hb
        have hb' := List.mem_range.mp hb
        rw [hN] at hb'
        rw [if_neg (by omega)] at hb'
        rw [one]
        have e1 : ¬ ((b : Int) = n - m) := by omega
        simp [e1]
    · rw [if_neg h1, hN, List.filterMap_map]
      have hdl : depth ≠ limit := by omega
      have hd0 : 0 < depth := by omega
      refine fm_congr fun b hb => ?_
      have hb' := List.mem_range.mp hb
      have hb2 : (b : Int) ≤ k := by
        by_cases q : n - m < k
        · rw [if_pos q] at hb'; omega
        · rw [if_neg q] at hb'; omega
      have hb3 : (b : Int) ≤ n - m := by
        by_cases q : n - m < k
        · rw [if_pos q] at hb'; omega
        · rw [if_neg q] at hb'; omega
      show chOf sums depth m k (b : Int) = _
      rw [one, two]
      simp only [hdl, if_false, hd0, decide_true, Bool.true_or, Bool.true_and, decide_eq_true_eq]
      by_cases q1 : (b : Int) = n - m
      · rw [if_pos q1, if_pos (by omega)]
      · rw [if_neg q1]
        have e5 : ¬ (m + (b : Int) = n) := by omega
        rw [if_neg e5]
        by_cases q2 : (b : Int) = k
        · have e6 : ¬ ((b : Int) < k) := by omega
          simp [q2]
        · have e6 : (b : Int) < k := by omega
          simp [q2, e6]
end M03
set_option Elab.async false
set_option linter.all false
set_option maxRecDepth 100000
set_option maxHeartbeats 4000000
namespace K03
open PySem PySem.Spec PyProof.Rows L2 GX KC Evl
def topS (i : Nat) : Stmt := PySem.Challenge.pw_kraftroom_k03_choices_of_a_stage.main.body.getD i (.Pass ⟨0, 0, 0, 0⟩)
abbrev s_ranks : Stmt := topS 1
theorem sc_ranks : FnScope ["weights", "order", "_", "symbol"] ["weights"] (defScope s_ranks) := ⟨rfl, rfl, rfl, by decide +kernel, rfl, by decide +kernel, by decide +kernel⟩
abbrev s_cost : Stmt := topS 2
theorem sc_cost : FnScope ["weights", "lengths"] ["weights", "lengths"] (defScope s_cost) := ⟨rfl, rfl, rfl, by decide +kernel, rfl, by decide +kernel, by decide +kernel⟩
abbrev s_rests : Stmt := topS 3
theorem sc_rests : FnScope ["weights", "sums", "weight"] ["weights"] (defScope s_rests) := ⟨rfl, rfl, rfl, by decide +kernel, rfl, by decide +kernel, by decide +kernel⟩
abbrev s_word_counts : Stmt := topS 4
theorem sc_word_counts : FnScope ["limit", "depth", "free", "left"] ["limit", "depth", "free", "left"] (defScope s_word_counts) := ⟨rfl, rfl, rfl, by decide +kernel, rfl, by decide +kernel, by decide +kernel⟩
abbrev s_stage_choices : Stmt := topS 5
theorem sc_stage_choices : FnScope ["sums", "limit", "stage", "depth", "m", "free", "left", "found", "a"] ["sums", "limit", "stage"] (defScope s_stage_choices) := ⟨rfl, rfl, rfl, by decide +kernel, rfl, by decide +kernel, by decide +kernel⟩
abbrev s_choices : Stmt := topS 6
theorem sc_choices : FnScope ["weights", "limit", "stage"] ["weights", "limit", "stage"] (defScope s_choices) := ⟨rfl, rfl, rfl, by decide +kernel, rfl, by decide +kernel, by decide +kernel⟩
abbrev s_law_cell : Stmt := topS 8
theorem sc_law_cell : FnScope ["script", "k"] ["script", "k"] (defScope s_law_cell) := ⟨rfl, rfl, rfl, by decide +kernel, rfl, by decide +kernel, by decide +kernel⟩
abbrev s_law_weights : Stmt := topS 9
theorem sc_law_weights : FnScope ["script", "first", "many", "weights", "k", "cell", "weight"] ["script", "first", "many"] (defScope s_law_weights) := ⟨rfl, rfl, rfl, by decide +kernel, rfl, by decide +kernel, by decide +kernel⟩
abbrev s_law_ranks : Stmt := topS 10
theorem sc_law_ranks : FnScope ["weights", "order", "turn", "best", "k"] ["weights"] (defScope s_law_ranks) := ⟨rfl, rfl, rfl, by decide +kernel, rfl, by decide +kernel, by decide +kernel⟩
abbrev s_law_least_limit : Stmt := topS 11
theorem sc_law_least_limit : FnScope ["many", "limit", "turn"] ["many"] (defScope s_law_least_limit) := ⟨rfl, rfl, rfl, by decide +kernel, rfl, by decide +kernel, by decide +kernel⟩
abbrev s_law_sums : Stmt := topS 12
theorem sc_law_sums : FnScope ["weights", "order", "sums", "back"] ["weights"] (defScope s_law_sums) := ⟨rfl, rfl, rfl, by decide +kernel, rfl, by decide +kernel, by decide +kernel⟩
abbrev s_law_choices_by : Stmt := topS 13
theorem sc_law_choices_by : FnScope ["sums", "limit", "stage", "depth", "m", "k", "n", "found", "a", "allowed"] ["sums", "limit", "stage"] (defScope s_law_choices_by) := ⟨rfl, rfl, rfl, by decide +kernel, rfl, by decide +kernel, by decide +kernel⟩
abbrev s_law_choices : Stmt := topS 14
theorem sc_law_choices : FnScope ["weights", "limit", "stage"] ["weights", "limit", "stage"] (defScope s_law_choices) := ⟨rfl, rfl, rfl, by decide +kernel, rfl, by decide +kernel, by decide +kernel⟩
abbrev s_law : Stmt := topS 15
theorem sc_law : FnScope ["script", "many", "weights", "limit", "cell", "stage", "given", "lengths", "k"] ["script"] (defScope s_law) := ⟨rfl, rfl, rfl, by decide +kernel, rfl, by decide +kernel, by decide +kernel⟩
section
variable {P : Program} {w : World} {K : PySem.W.Frag} {mg : Str → Option Value} {base : Heap}
theorem ok_cell {f : Addr} {fd : FuncData} {k : Nat} (F : Fun K "_law_cell" "_law_cell" s_law_cell f fd) (B : Bs mg) : FnOk P w K mg base CX0 (k + 1) f fd ["script", "k"] (spCell K) := by
  refine F.ok sc_law_cell (fun vs H Q E h => ?_) (fun cdv A outer s H vs Q E hr h => ?_)
  · obtain ⟨l, ns, j, rfl, _⟩ := h
    rfl
  · obtain ⟨l, ns, j, rfl, hs, q⟩ := h
    refine ⟨_, (pss_cons (ps_if (pt_cmpR op_lt (pv 1) (pe_callB call_len_seq (by rfl) B.len PySem.boot_len (pa_cons (pv 0) pa_nil)) (nomark _)) (pss_one (ps_ret (pe_callTy call_int1 (by rfl) B.int (by decide +kernel) (pa_cons (pe_ix ix_list (pv 0) (pv 1) (fun _ _ => rfl)) pa_nil)))) pss_nil)
      (pss_one (ps_ret pe_int))), ?_⟩
    refine ⟨_, rfl, _, rfl, l, _, rfl, .inl hs, _, _, rfl, rfl, _, rfl, ?_⟩
    by_cases hj : j < ns.length
    · have hd : decide ((j : Int) < ((ns.map V.int).length : Int)) = true := decide_eq_true (by rw [List.length_map]; omega)
      rw [hd]
      exact ⟨_, rfl, _, rfl, l, _, _, _, rfl, rfl, hs, atI_cell hj, .inl ⟨_, rfl, q⟩⟩
    · have hd : decide ((j : Int) < ((ns.map V.int).length : Int)) = false := decide_eq_false (by rw [List.length_map]; omega)
      rw [hd]
      rw [cell_out hj] at q
      exact q
/-! ### the weights -/
def weightOf (c : Int) : Int := if c % 23 = 7 then c / 23 % 1000001 else if c % 5 = 1 then c / 5 % 100 else c % 9
def weightsL (ns : List Int) (first n : Nat) : List Int := (List.range n).map fun k => weightOf (cellOf ns (first + k))
theorem weightsL_succ (ns : List Int) (first n : Nat) : weightsL ns first (n + 1) = weightsL ns first n ++ [weightOf (cellOf ns (first + n))] := by
  unfold weightsL
  rw [List.range_succ, List.map_append] <;> rfl
theorem weightsL_len (ns : List Int) (first n : Nat) : (weightsL ns first n).length = n := by simp [weightsL]
def spWeights (K : PySem.W.Frag) : Sp := fun vs H Q _ => ∃ (l : Addr) (ns : List Int) (first n : Nat), vs = [.ref l, .int (first : Int), .int (n : Int)] ∧ SqL K H l (ns.map V.int) ∧ n ≤ 1000 ∧ RetL ((weightsL ns first n).map V.int) H Q
theorem spv_cell {H : Hp} {l : Addr} {ns : List Int} {z : Int} {j : Nat} (hs : SqL K H l (ns.map V.int)) (e : z = (j : Int)) : SpV (spCell K) ([.ref l, .int z] ++ []) H (.int (cellOf ns j)) := fun H1 e1 Q q E => ⟨l, ns, j, by rw [e]; rfl, ex_l e1 hs, q H1 (Ex.refl H1)⟩
theorem ok_weights {f : Addr} {fd : FuncData} {k : Nat} (F : Fun K "_law_weights" "_law_weights" s_law_weights f fd) (B : Bs mg) (C_law_cell : Cal P w K mg base "_law_cell" 1 ["script", "k"] (spCell K)) : FnOk P w K mg base CX0 (k + 2) f fd ["script", "first", "many"] (spWeights K) := by
  refine F.ok sc_law_weights (fun vs H Q E h => ?_) (fun cdv A outer s H vs Q E hr h => ?_)
  · obtain ⟨l, ns, first, n, rfl, _⟩ := h
    rfl
  · obtain ⟨l, ns, first, n, rfl, hs, hn, q⟩ := h
    refine ⟨_, (pss_cons (ps_set (i := 3) sc_law_weights.nd rfl (Or.inl rfl) (pe_lst pa_nil))
      (pss_cons (ps_for PassesOwn.never rfl (pi_range1 (by rfl) B.range (pa_cons (pv 2) pa_nil)) (pg_name (i := 4) sc_law_weights.nd rfl (Or.inl rfl)) (pss_cons (ps_set (i := 5) sc_law_weights.nd rfl (Or.inl rfl) (pe_callC C_law_cell (hr.mono (by omega)) (by rfl) (pa_cons (pv 0) (pa_cons (pe_op op_add (pv 1) (pv 4)) pa_nil))))
      (pss_cons (ps_set (i := 6) sc_law_weights.nd rfl (Or.inl rfl) (pe_op op_mod (pv 5) pe_int))
      (pss_cons (ps_if (pt_cmpR op_eq (pe_op op_mod (pv 5) pe_int) pe_int (nomark _)) (pss_one (ps_set (i := 6) sc_law_weights.nd rfl (Or.inl rfl) (pe_op op_mod (pe_op op_fdiv (pv 5) pe_int) pe_int))) pss_nil)
      (pss_cons (ps_if (pt_cmpR op_eq (pe_op op_mod (pv 5) pe_int) pe_int (nomark _)) (pss_one (ps_set (i := 6) sc_law_weights.nd rfl (Or.inl rfl) (pe_op op_mod (pe_op op_fdiv (pv 5) pe_int) pe_int))) pss_nil)
      (pss_one (ps_expr (pe_bm PySem.F.plainAttrs_list PySem.F.slot_list_append PySem.F.type_list_append mt_append (pv 3) (pa_cons (pv 6) pa_nil)))))))))
      (pss_one (ps_ret (pv 3))))), ?_⟩
    refine q_asgL (el_lst ea_nil (by decide)) fun p H1 hp e1 h1 => ?_
    refine q_forR1 (n := (n : Int)) (ea1 (ev_var rfl)) ⟨by omega, by omega⟩
      (fun i σ H' => ∃ a b c, σ = [some (.ref l), some (.int (first : Int)), some (.int (n : Int)), some (.ref p), a, b, c] ∧ Ex H H' ∧ H' p = some (.lst ((weightsL ns first i).map V.int)))
      (fun H2 e2 => ⟨none, none, none, rfl, e1.trans e2, e2 p _ h1⟩) ?_ ?_
    · rintro i σ H' hi ⟨a, b, c, rfl, eh, hl⟩
      have hs' := ex_l eh hs
      -- cell = _law_cell(script, first + k)
      refine q_asg (ev_call (ea2 (ev_var rfl) (ev_op (ev_var rfl) (ev_var rfl) rv_I0)) (spv_cell (j := first + i) hs' (by omega))) fun H2 e2 => ?_
      generalize hc : cellOf ns (first + i) = z
      -- weight = cell % 9
      refine q_asg (ev_op (ev_var rfl) ev_c (rv_mod (by decide))) fun H3 e3 => ?_
      refine q_ifAsg (v := .int (if z % 5 = 1 then z / 5 % 100 else z % 9)) (et_test (ev_op (ev_op (ev_var rfl) ev_c (rv_mod (by decide))) ev_c (rv_eq rfl))) (fun hb => ?_) (fun hb => ?_) fun H4 e4 => ?_
      · have hb' : z % 5 = 1 := V.int.inj (of_decide_eq_true hb)
        rw [if_pos hb']
        exact ev_op (ev_op (ev_var rfl) ev_c (rv_div (by decide) (by decide))) ev_c (rv_mod (by decide))
      · have hb' : ¬ z % 5 = 1 := fun e => of_decide_eq_false hb (congrArg V.int e)
        rw [if_neg hb']
        rfl
      refine q_ifAsg (v := .int (weightOf z)) (et_test (ev_op (ev_op (ev_var rfl) ev_c (rv_mod (by decide))) ev_c (rv_eq rfl))) (fun hb => ?_) (fun hb => ?_) fun H5 e5 => ?_
      · have hb' : z % 23 = 7 := V.int.inj (of_decide_eq_true hb)
        unfold weightOf
        rw [if_pos hb']
        exact ev_op (ev_op (ev_var rfl) ev_c (rv_div (by decide) (by decide))) ev_c (rv_mod (by decide))
      · have hb' : ¬ z % 23 = 7 := fun e => of_decide_eq_false hb (congrArg V.int e)
        unfold weightOf
        rw [if_neg hb']
        rfl
      have e25 : Ex H' H5 := ((e2.trans e3).trans e4).trans e5
      refine s_app (e25 p _ hl) (ev_var rfl) (ev_var rfl) (by rw [List.length_map, weightsL_len]; omega) fun H6 e6 => ?_
      refine ⟨_, _, _, rfl, Ex.mut ((eh.trans e25).trans e6) hp, ?_⟩
      rw [upd_same, weightsL_succ, hc, List.map_append]
      rfl
    · rintro σ H' ⟨a, b, c, rfl, eh, hl⟩
      have hn' : ((n : Int)).toNat = n := by omega
      rw [hn'] at hl
      exact s_ret (ev_var rfl) fun H2 e2 => q p H2 hp (eh.trans e2) (e2 p _ hl)
end
end K03
set_option Elab.async false
set_option linter.all false
set_option maxRecDepth 100000
set_option maxHeartbeats 4000000
namespace K03
open PySem PySem.Spec PyProof.Rows L2 GX KC Evl M03
section
variable {P : Program} {w : World} {K : PySem.W.Frag} {mg : Str → Option Value} {base : Heap}
def nats (ks : List Nat) : List V := ks.map fun (k : Nat) => V.int (k : Int)
theorem nats_app (a b : List Nat) : nats (a ++ b) = nats a ++ nats b := List.map_append
theorem nats_len (a : List Nat) : (nats a).length = a.length := List.length_map _
theorem nats_flat (a : List Nat) : (nats a).all flatV = true := by
  rw [List.all_eq_true]
  intro x hx
  obtain ⟨k, _, e⟩ := List.mem_map.mp hx
  rw [← e]
  rfl
theorem nats_in (i : Nat) (a : List Nat) : inV (.int (i : Int)) (nats a) = decide (i ∈ a) := by
  induction a with
  | nil => rfl
  | cons k r ih =>
    have e : inV (.int (i : Int)) (nats (k :: r)) = (eqV (.int (k : Int)) (.int (i : Int)) || inV (.int (i : Int)) (nats r)) := rfl
    rw [e, ih]
    have e2 : eqV (.int (k : Int)) (.int (i : Int)) = decide (k = i) := by
      by_cases h : k = i
      · subst h
        rw [decide_eq_true rfl]
        simp [eqV]
      · rw [decide_eq_false h]
        simp [eqV]
        omega
    rw [e2]
    by_cases h : k = i
    · simp [h]
    · have h' : ¬ i = k := fun z => h z.symm
      simp [h, h']
def oV : Option Nat → V
  | none => .non
  | some b => .int (b : Int)
def spRanks (K : PySem.W.Frag) : Sp := fun vs H Q _ => ∃ (l : Addr) (ws : List Int), vs = [.ref l] ∧ SqL K H l (ws.map V.int) ∧ ws.length ≤ 64 ∧ RetL (nats (rankL ws)) H Q
theorem rv_notIn {p : Addr} {i : Nat} {ord : List Nat} {H : Hp} (h : SqL K H p (nats ord)) : RV (rIn K true) (.int (i : Int)) (.ref p) H (.bl (!decide (i ∈ ord))) := by
  have q := rv_niL (x := .int (i : Int)) h rfl (nats_flat ord)
  rw [nats_in] at q
  exact q
theorem ok_law_ranks {f : Addr} {fd : FuncData} {k : Nat} (F : Fun K "_law_ranks" "_law_ranks" s_law_ranks f fd) (B : Bs mg) : FnOk P w K mg base CX0 (k + 1) f fd ["weights"] (spRanks K) := by
  refine F.ok sc_law_ranks (fun vs H Q E h => ?_) (fun cdv A outer s H vs Q E hr h => ?_)
  · obtain ⟨l, ws, rfl, _⟩ := h
    rfl
  · obtain ⟨l, ws, rfl, hs, hn, q⟩ := h
    refine ⟨_, (pss_cons (ps_set (i := 1) sc_law_ranks.nd rfl (Or.inl rfl) (pe_lst pa_nil))
      (pss_cons (ps_for PassesOwn.never rfl (pi_range1 (by rfl) B.range (pa_cons (pe_callB call_len_seq (by rfl) B.len PySem.boot_len (pa_cons (pv 0) pa_nil)) pa_nil)) (pg_name (i := 2) sc_law_ranks.nd rfl (Or.inl rfl)) (pss_cons (ps_set (i := 3) sc_law_ranks.nd rfl (Or.inl rfl) pe_non)
      (pss_cons (ps_for PassesOwn.never rfl (pi_range1 (by rfl) B.range (pa_cons (pe_callB call_len_seq (by rfl) B.len PySem.boot_len (pa_cons (pv 0) pa_nil)) pa_nil)) (pg_name (i := 4) sc_law_ranks.nd rfl (Or.inl rfl)) (pss_one (ps_if (PW.pt (pw_and (pt_cmpR op_notIn_seq (pv 4) (pv 1) (by rfl)) (pw_and1 (PW.pt (pw_or (pt_cmpR op_isN (pv 3) pe_non (nomark _)) (pw_or1 (pt_cmpR op_gt (pe_ix ix_list (pv 0) (pv 4) (fun _ _ => rfl)) (pe_ix ix_list (pv 0) (pv 3) (fun _ _ => rfl)) (nomark _)))))))) (pss_one (ps_set (i := 3) sc_law_ranks.nd rfl (Or.inl rfl) (pv 4))) pss_nil)))
      (pss_one (ps_expr (pe_bm PySem.F.plainAttrs_list PySem.F.slot_list_append PySem.F.type_list_append mt_append (pv 1) (pa_cons (pv 3) pa_nil)))))))
      (pss_one (ps_ret (pv 1))))), ?_⟩
    refine q_asgL (el_lst ea_nil (by decide)) fun p H1 hp e1 h1 => ?_
    have hlen : ((ws.map V.int).length : Int) = (ws.length : Int) := by rw [List.length_map]
    refine q_forR1 (n := ((ws.map V.int).length : Int)) (ea1 (ev_len (ev_var rfl) (ex_l e1 hs))) ⟨by omega, by omega⟩
      (fun i σ H' => ∃ (ord : List Nat) (a b c : Option V), σ = [some (.ref l), some (.ref p), a, b, c] ∧ Ex H H' ∧ H' p = some (.lst (nats ord)) ∧ Part ws ord ∧ ord.length = i)
      (fun H2 e2 => ⟨[], none, none, none, rfl, e1.trans e2, e2 p _ h1, Part.nil ws, rfl⟩) ?_ ?_
    · rintro i σ H' hi ⟨ord, a, b, c, rfl, eh, hl, pt, rfl⟩
      refine q_asg ev_c fun H2 e2 => ?_
      refine q_forR1 (n := ((ws.map V.int).length : Int)) (ea1 (ev_len (ev_var rfl) (ex_l (eh.trans e2) hs))) ⟨by omega, by omega⟩
        (fun j σ H3 => ∃ (o : Option Nat) (c : Option V), σ = [some (.ref l), some (.ref p), some (.int (ord.length : Int)), some (oV o), c] ∧ Ex H H3 ∧ H3 p = some (.lst (nats ord)) ∧ Best ws ord j o)
        (fun H3 e3 => ⟨none, c, rfl, (eh.trans e2).trans e3, e3 p _ (e2 p _ hl), Best.zero ws ord⟩) ?_ ?_
      · rintro j σ H3 hj ⟨o, c, rfl, eh3, hl3, hb⟩
        have hs3 := ex_l eh3 hs
        have hj' : j < ws.length := by omega
        have ho : ∀ b, o = some b → b < ws.length := fun b e => by
          subst e
          have := hb.1
          omega
        refine s_ifAsg (v := oV (if j ∉ ord ∧ (o = none ∨ ∃ b, o = some b ∧ wAt ws b < wAt ws j) then some j else o)) (b := (!decide (j ∈ ord)) && (decide (o = none) || decide (wAt ws (o.getD 0) < wAt ws j)))
          (et_and (et_test (ev_op (ev_var rfl) (ev_var rfl) (rv_notIn (.inl (.inl hl3))))) fun _ => et_or (et_is (et_test (ev_op (ev_var rfl) ev_c (rv_val (z := .bl (decide (o = none))) fun H1 _ Q q => ⟨rfl, ?_⟩))) rfl) fun hz => et_test (ev_op (ev_op (ev_var rfl) (ev_var rfl) (rv_ixL hs3 (atI_at rfl hj'))) (ev_op (ev_var rfl) (ev_var rfl) (rv_val fun H1 e _ q => ?_)) rv_I0)) (fun hb' => ?_) (fun hb' => ?_) fun H4 e4 => ?_
        · cases o <;> exact q
        · cases o with
          | none => cases hz
          | some b =>
            exact ⟨l, _, _, _, rfl, rfl, ex_l e hs3, atI_at rfl (ho b rfl), q⟩
        · rw [if_pos ?_]
          · exact ev_var rfl
          · simp only [Bool.and_eq_true, Bool.or_eq_true, Bool.not_eq_true', decide_eq_false_iff_not, decide_eq_true_eq] at hb'
            refine ⟨hb'.1, ?_⟩
            cases o with
            | none => exact .inl rfl
            | some b =>
              rcases hb'.2 with z | z
              · cases z
              · exact .inr ⟨b, rfl, z⟩
        · rw [if_neg ?_]
          · rfl
          · rintro ⟨h1, h2⟩
            rw [decide_eq_false h1] at hb'
            rcases h2 with rfl | ⟨b, rfl, h2⟩
            · cases hb'
            · rw [show (some b).getD 0 = b from rfl, decide_eq_true h2] at hb'
              cases hb'
        · refine ⟨_, _, rfl, eh3.trans e4, e4 p _ hl3, ?_⟩
          by_cases hm : j ∈ ord
          · rw [if_neg (fun z => z.1 hm)]
            exact hb.skip hm
          · cases o with
            | none =>
              rw [if_pos ⟨hm, .inl rfl⟩]
              exact hb.first hm
            | some b =>
              by_cases hw : wAt ws b < wAt ws j
              · rw [if_pos ⟨hm, .inr ⟨b, rfl, hw⟩⟩]
                exact hb.take hm hw
              · rw [if_neg (fun z => by
                  rcases z.2 with z | ⟨b', e, z⟩
                  · cases z
                  · cases e; exact hw z)]
                exact hb.keep hw
      · rintro σ H3 ⟨o, c, rfl, eh3, hl3, hb⟩
        have hz : ((ws.map V.int).length : Int).toNat = ws.length := by omega
        rw [hz] at hb
        obtain ⟨b, rfl⟩ := pt.some (by omega) hb
        refine s_app hl3 (ev_var rfl) (ev_var rfl) (by rw [nats_len]; omega) fun H4 e4 => ?_
        refine ⟨ord ++ [b], _, _, _, rfl, Ex.mut (eh3.trans e4) hp, ?_, pt.add hb, by simp⟩
        rw [upd_same, nats_app]
        rfl
    · rintro σ H' ⟨ord, a, b, c, rfl, eh, hl, pt, hlen2⟩
      have hz : ((ws.map V.int).length : Int).toNat = ws.length := by omega
      rw [hz] at hlen2
      rw [pt.whole hlen2] at hl
      exact s_ret (ev_var rfl) fun H2 e2 => q p H2 hp (eh.trans e2) (e2 p _ hl)
end
end K03
set_option Elab.async false
set_option linter.all false
set_option maxRecDepth 100000
set_option maxHeartbeats 4000000
namespace K03
open PySem PySem.Spec PyProof.Rows L2 GX KC Evl M03
section
variable {P : Program} {w : World} {K : PySem.W.Frag} {mg : Str → Option Value} {base : Heap}
/-! the least limit -/
def spLim : Sp := fun vs H Q _ => ∃ n : Nat, vs = [.int (n : Int)] ∧ ∀ H2, Ex H H2 → Q (.int (llim n : Nat)) H2
theorem llimAt_lt (n : Nat) : ∀ i, i ≤ 6 → (llimAt n i : Nat) ≤ 7 := fun i hi => by
  have := (llimAt_le n i).2
  omega
theorem ok_law_least_limit {f : Addr} {fd : FuncData} {k : Nat} (F : Fun K "_law_least_limit" "_law_least_limit" s_law_least_limit f fd) (B : Bs mg) : FnOk P w K mg base CX0 (k + 1) f fd ["many"] spLim := by
  refine F.ok sc_law_least_limit (fun vs H Q E h => ?_) (fun cdv A outer s H vs Q E hr h => ?_)
  · obtain ⟨n, rfl, _⟩ := h
    rfl
  · obtain ⟨n, rfl, q⟩ := h
    refine ⟨_, (pss_cons (ps_set (i := 1) sc_law_least_limit.nd rfl (Or.inl rfl) pe_int)
      (pss_cons (ps_for PassesOwn.never rfl (pi_range1 (by rfl) B.range (pa_cons pe_int pa_nil)) (pg_name (i := 2) sc_law_least_limit.nd rfl (Or.inl rfl)) (pss_one (ps_if (pt_cmpR op_lt (pe_op op_shl pe_int (pv 1)) (pv 0) (nomark _)) (pss_one (ps_set (i := 1) sc_law_least_limit.nd rfl (Or.inl rfl) (pe_op op_add (pv 1) pe_int))) pss_nil)))
      (pss_one (ps_ret (pv 1))))), ?_⟩
    refine q_asg ev_c fun H1 e1 => ?_
    refine q_forR1 (n := 6) (ea1 ev_c) ⟨by decide, by decide⟩
      (fun i σ H' => ∃ a, σ = [some (.int (n : Int)), some (.int (llimAt n i : Nat)), a] ∧ Ex H H')
      (fun H2 e2 => ⟨none, rfl, e1.trans e2⟩) ?_ ?_
    · rintro i σ H' hi ⟨a, rfl, eh⟩
      have hb := llimAt_le n i
      refine s_ifAsg (v := .int (llimAt n (i + 1) : Nat)) (b := decide ((2 : Int) ^ (llimAt n i) < (n : Int))) (et_is (et_test (ev_op (ev_op ev_c (ev_var rfl) (rv_shl ⟨by omega, by omega, by decide⟩)) (ev_var rfl) rv_I0)) ?_) (fun hb' => ?_) (fun hb' => ?_) fun H4 e4 => ?_
      · rw [Int.one_mul, Int.toNat_natCast]
      · have h2 := of_decide_eq_true hb'
        have h3 : 2 ^ llimAt n i < n := by exact_mod_cast h2
        have e : llimAt n (i + 1) = llimAt n i + 1 := by
          rw [llimAt, if_pos h3]
        rw [e, Int.natCast_add]
        exact ev_add (ev_var rfl) ev_c
      · have h2 := of_decide_eq_false hb'
        have h3 : ¬ 2 ^ llimAt n i < n := by intro h; apply h2; exact_mod_cast h
        have e : llimAt n (i + 1) = llimAt n i := by
          rw [llimAt, if_neg h3]
        rw [e]
        rfl
      · exact ⟨_, rfl, eh.trans e4⟩
    · rintro σ H' ⟨a, rfl, eh⟩
      exact s_ret (ev_var rfl) fun H2 e2 => q H2 (eh.trans e2)
/-! the sums -/
def spSums (K : PySem.W.Frag) : Sp := fun vs H Q _ => ∃ (l : Addr) (ws : List Int), vs = [.ref l] ∧ SqL K H l (ws.map V.int) ∧ ws.length ≤ 64 ∧ RetL ((sumsL ws).map V.int) H Q
theorem sp_ranks {H : Hp} {l : Addr} {ws : List Int} (hs : SqL K H l (ws.map V.int)) (hn : ws.length ≤ 64) : SpL (spRanks K) ([.ref l] ++ []) H (nats (rankL ws)) := fun H1 e1 Q q E =>
  ⟨l, ws, rfl, ex_l e1 hs, hn, fun p H2 hp e2 h2 => q p H2 hp e2 h2⟩
theorem nats_at {a : List Nat} {i : Nat} {z : Int} (e : z = (i : Int)) (h : i < a.length) : atI (nats a) z = some (.int (a.getD i 0 : Nat)) := by
  refine at_of e ?_
  unfold nats
  rw [List.getElem?_map, List.getElem?_eq_getElem h, List.getD_eq_getElem?_getD, List.getElem?_eq_getElem h]
  rfl
theorem sums_cons {L : List Int} {i : Nat} {ws : List Int} (h : i < ws.length) : restL ((ranked ws).drop i) = ((restL ((ranked ws).drop (i + 1))).getD 0 0 + wAt ws ((rankL ws).getD i 0)) :: restL ((ranked ws).drop (i + 1)) := by
  rw [drop_step (by rw [ranked_len]; exact h), ranked_at h, restL_get0, Int.add_comm]
theorem ok_law_sums {f : Addr} {fd : FuncData} {k : Nat} (F : Fun K "_law_sums" "_law_sums" s_law_sums f fd) (B : Bs mg) (C_law_ranks : Cal P w K mg base "_law_ranks" 1 ["weights"] (spRanks K)) : FnOk P w K mg base CX0 (k + 2) f fd ["weights"] (spSums K) := by
  refine F.ok sc_law_sums (fun vs H Q E h => ?_) (fun cdv A outer s H vs Q E hr h => ?_)
  · obtain ⟨l, ws, rfl, _⟩ := h
    rfl
  · obtain ⟨l, ws, rfl, hs, hn, q⟩ := h
    refine ⟨_, (pss_cons (ps_set (i := 1) sc_law_sums.nd rfl (Or.inl rfl) (pe_callC C_law_ranks (hr.mono (by omega)) (by rfl) (pa_cons (pv 0) pa_nil)))
      (pss_cons (ps_set (i := 2) sc_law_sums.nd rfl (Or.inl rfl) (pe_lst (pa_cons pe_int pa_nil)))
      (pss_cons (ps_for PassesOwn.never rfl (pi_range1 (by rfl) B.range (pa_cons (pe_callB call_len_seq (by rfl) B.len PySem.boot_len (pa_cons (pv 1) pa_nil)) pa_nil)) (pg_name (i := 3) sc_law_sums.nd rfl (Or.inl rfl)) (pss_one (ps_set (i := 2) sc_law_sums.nd rfl (Or.inl rfl) (pe_op op_cat (pe_lst (pa_cons (pe_op op_add (pe_ix ix_list (pv 2) pe_int (fun _ _ => rfl)) (pe_ix ix_list (pv 0) (pe_ix ix_list (pv 1) (pe_op op_sub (pe_op op_sub (pe_callB call_len_seq (by rfl) B.len PySem.boot_len (pa_cons (pv 1) pa_nil)) pe_int) (pv 3)) (fun _ _ => rfl)) (fun _ _ => rfl))) pa_nil)) (pv 2)))))
      (pss_one (ps_ret (pv 2)))))), ?_⟩
    refine q_asgL (el_call (ea1 (ev_var rfl)) (sp_ranks hs hn)) fun o H1 ho e1 h1 => ?_
    refine q_asgL (el_lst (ea1 ev_c) (by decide)) fun p H2 hp e2 h2 => ?_
    have hol : (nats (rankL ws)).length = ws.length := by rw [nats_len, rank_len]
    refine q_forR1 (n := ((nats (rankL ws)).length : Int)) (ea1 (ev_len (ev_var rfl) (ex_l e2 (sq_of h1)))) ⟨by omega, by omega⟩
      (fun i σ H' => ∃ (p : Addr) (a : Option V), σ = [some (.ref l), some (.ref o), some (.ref p), a] ∧ Ex H1 H' ∧ H p = none ∧ H' p = some (.lst ((restL ((ranked ws).drop (ws.length - i))).map V.int)))
      (fun H3 e3 => ⟨p, none, rfl, e2.trans e3, fresh_back e1 hp, ?_⟩) ?_ ?_
    · rw [e3 p _ h2, Nat.sub_zero, List.drop_of_length_le (by rw [ranked_len]; exact Nat.le_refl _)]
      rfl
    · rintro i σ H' hi ⟨p, a, rfl, eh, hp0, hl⟩
      have hi' : i < ws.length := by omega
      have hj : ws.length - (i + 1) < ws.length := by omega
      have hj1 : ws.length - (i + 1) + 1 = ws.length - i := by omega
      have hso : SqL K H' o (nats (rankL ws)) := ex_l eh (sq_of h1)
      have hsw : SqL K H' l (ws.map V.int) := ex_l (e1.trans eh) hs
      have hpl : ((restL ((ranked ws).drop (ws.length - i))).map V.int).length ≤ 65 := by
        rw [List.length_map, restL_len, List.length_drop, ranked_len]; omega
      have hrk : (rankL ws).getD (ws.length - (i + 1)) 0 < ws.length := by
        have h1 : ws.length - (i + 1) < (rankL ws).length := by rw [rank_len]; exact hj
        rw [List.getD_eq_getElem?_getD, List.getElem?_eq_getElem h1]
        exact rank_lt (List.getElem_mem h1)
      have hR0 : 0 < (restL ((ranked ws).drop (ws.length - i))).length := by rw [restL_len]; omega
      refine s_asgL (el_cat (xs := [V.int ((restL ((ranked ws).drop (ws.length - i))).getD 0 0 + wAt ws ((rankL ws).getD (ws.length - (i + 1)) 0))])
        (el_lst (ea1 (ev_add (ev_op (ev_var rfl) ev_c (rv_ixL (sq_of hl) (atI_at rfl hR0)))
          (ev_op (ev_var rfl) (ev_op (ev_var rfl) (ev_sub (ev_sub (ev_len (ev_var rfl) hso) ev_c) (ev_var rfl)) (rv_ixL hso (nats_at (i := ws.length - (i + 1)) (by omega) (by rw [rank_len]; exact hj)))) (rv_ixL hsw (atI_at rfl hrk))))) (by show 1 ≤ 100000; decide))
        (ev_var rfl) hl (by simp only [List.length_cons, List.length_nil]; omega)) fun p2 H3 hp2 e3 h3 => ?_
      refine ⟨p2, _, rfl, eh.trans e3, fresh_back (e1.trans eh) hp2, ?_⟩
      rw [h3, sums_cons (L := []) hj, hj1]
      rfl
    · rintro σ H' ⟨p, a, rfl, eh, hp0, hl⟩
      have hz : ((nats (rankL ws)).length : Int).toNat = ws.length := by omega
      rw [hz, Nat.sub_self, List.drop_zero] at hl
      exact s_ret (ev_var rfl) fun H2 e2 => q p H2 hp0 ((e1.trans eh).trans e2) (e2 p _ hl)
/-! a stage's choices -/
def nxD : Nxt → PyData
  | none => .none
  | some (d, m, k) => .tuple [.int d, .int m, .int k]
def chD : Int × Int × Nxt → PyData
  | (a, c, n) => .tuple [.int a, .int c, nxD n]
theorem chD_noList (x : Int × Int × Nxt) : noList (chD x) = true := by
  obtain ⟨a, c, n⟩ := x
  cases n <;> rfl
def chsD (xs : List (Int × Int × Nxt)) : List PyData := xs.map chD
structure StIn (K : PySem.W.Frag) (sums : List Int) (l t : Addr) (limit depth m k : Int) (H : Hp) : Prop where
  sq : SqL K H l (sums.map V.int)
  st : SqT K H t [.int depth, .int m, .int k]
  ok : StOk sums limit depth m k
  len : sums.length ≤ 1000
  kk : k ≤ 1000
def spCh (K : PySem.W.Frag) (g : List Int → Int → Int → Int → Int → List (Int × Int × Nxt)) : Sp := fun vs H Q _ => ∃ (l t : Addr) (sums : List Int) (limit depth m k : Int), vs = [.ref l, .int limit, .ref t] ∧ StIn K sums l t limit depth m k H ∧ RetD K (.list (chsD (g sums limit depth m k))) H Q
theorem q_unp {σ : L2.St} {H : Hp} {te : TE} {D : Ends} {tz : TS} {n : Nat} {t : TGs} {a : Addr} {xs : List V} (h : Ev te σ H (.ref a)) (hx : SqT K H a xs) (hl : xs.length = n) (k : ∀ H1, Ex H H1 → t xs σ H1 (tz D)) : tSeq (tAsg te (gTup K n t)) tz D σ H :=
  h H (Ex.refl H) _ fun H1 e1 => ⟨a, xs, rfl, ex_t e1 hx, hl, k H1 e1⟩
theorem dp_app {H : Hp} {p : Addr} {vs : List V} {ds : List PyData} {v : V} {d : PyData} (hl : H p = some (.lst vs)) (hd : DpAll K H vs ds) (hv : Dp K H v d) (hn : noListAll ds = true) (hn2 : noList d = true) : DpAll K (upd H p (.lst (vs ++ [v]))) (vs ++ [v]) (ds ++ [d]) :=
  DpAll.app (DpAll.put hl ds vs hn hd) (Dp.put hl d v hn2 hv)
theorem fm_succ {α : Type} (f : Nat → Option α) (i : Nat) : (List.range (i + 1)).filterMap f = (List.range i).filterMap f ++ (f i).toList := by
  rw [List.range_succ, List.filterMap_append, List.filterMap_cons, List.filterMap_nil]
  cases f i <;> rfl
theorem chsD_noList (xs : List (Int × Int × Nxt)) : noListAll (chsD xs) = true := noListAll_map chD_noList xs
theorem fm_len {α β : Type} (f : α → Option β) (l : List α) : (l.filterMap f).length ≤ l.length := List.length_filterMap_le f l
theorem ok_law_choices_by {f : Addr} {fd : FuncData} {k : Nat} (F : Fun K "_law_choices_by" "_law_choices_by" s_law_choices_by f fd) (B : Bs mg) : FnOk P w K mg base CX0 (k + 1) f fd ["sums", "limit", "stage"] (spCh K chL) := by
  refine F.ok sc_law_choices_by (fun vs H Q E h => ?_) (fun cdv A outer s H vs Q E hr h => ?_)
  · obtain ⟨l, t, sums, limit, depth, m, kk, rfl, _⟩ := h
    rfl
  · obtain ⟨l, t, sums, limit, depth, m, kk, rfl, hs, q⟩ := h
    refine ⟨_, (pss_cons (ps_asg (pv 2) (pg_tup rfl (pgs_cons (pg_name (i := 3) sc_law_choices_by.nd rfl (Or.inl rfl)) (pgs_cons (pg_name (i := 4) sc_law_choices_by.nd rfl (Or.inl rfl)) (pgs_cons (pg_name (i := 5) sc_law_choices_by.nd rfl (Or.inl rfl)) pgs_nil)))))
      (pss_cons (ps_set (i := 6) sc_law_choices_by.nd rfl (Or.inl rfl) (pe_op op_sub (pe_callB call_len_seq (by rfl) B.len PySem.boot_len (pa_cons (pv 0) pa_nil)) pe_int))
      (pss_cons (ps_set (i := 7) sc_law_choices_by.nd rfl (Or.inl rfl) (pe_lst pa_nil))
      (pss_cons (ps_for PassesOwn.never rfl (pi_range1 (by rfl) B.range (pa_cons (pe_op op_add (pe_callB (call_min2 rfl) (by rfl) B.min (by decide +kernel) (pa_cons (pv 5) (pa_cons (pe_op op_sub (pv 6) (pv 4)) pa_nil))) pe_int) pa_nil)) (pg_name (i := 8) sc_law_choices_by.nd rfl (Or.inl rfl)) (pss_cons (ps_set (i := 9) sc_law_choices_by.nd rfl (Or.inl rfl) (pe_or (pe_cmpR op_gt (pv 3) pe_int (nomark _)) (pe_one (pe_cmpR op_eq (pv 8) pe_int (nomark _)))))
      (pss_cons (ps_if (pt_cmpR op_eq (pv 3) (pv 1) (nomark _)) (pss_one (ps_set (i := 9) sc_law_choices_by.nd rfl (Or.inl rfl) (pe_cmpR op_eq (pv 8) (pe_op op_sub (pv 6) (pv 4)) (nomark _)))) pss_nil)
      (pss_one (ps_if (PW.pt (pw_and (pt_val (pv 9)) (pw_and1 (pt_cmpR op_eq (pe_op op_add (pv 4) (pv 8)) (pv 6) (nomark _))))) (pss_one (ps_expr (pe_bm PySem.F.plainAttrs_list PySem.F.slot_list_append PySem.F.type_list_append mt_append (pv 7) (pa_cons (pe_tup (pa_cons (pv 8) (pa_cons pe_int (pa_cons pe_non pa_nil)))) pa_nil)))) (pss_one (ps_if (PW.pt (pw_and (pt_val (pv 9)) (pw_and1 (pt_cmpR op_lt (pv 8) (pv 5) (nomark _))))) (pss_one (ps_expr (pe_bm PySem.F.plainAttrs_list PySem.F.slot_list_append PySem.F.type_list_append mt_append (pv 7) (pa_cons (pe_tup (pa_cons (pv 8) (pa_cons (pe_ix ix_list (pv 0) (pe_op op_add (pv 4) (pv 8)) (fun _ _ => rfl)) (pa_cons (pe_tup (pa_cons (pe_op op_add (pv 3) pe_int) (pa_cons (pe_op op_add (pv 4) (pv 8)) (pa_cons (pe_callB (call_min2 rfl) (by rfl) B.min (by decide +kernel) (pa_cons (pe_op op_mul pe_int (pe_op op_sub (pv 5) (pv 8))) (pa_cons (pe_op op_sub (pe_op op_sub (pv 6) (pv 4)) (pv 8)) pa_nil))) pa_nil)))) pa_nil)))) pa_nil)))) pss_nil)))))))
      (pss_one (ps_ret (pv 7))))))), ?_⟩
    obtain ⟨hsq, hst, ⟨o1, o2, o3, o4⟩, hln, hkk⟩ := hs
    refine q_unp (ev_var rfl) hst rfl fun H1 e1 => ⟨_, _, rfl, _, _, rfl, _, _, rfl, rfl, ?_⟩
    have hlen : ((sums.map V.int).length : Int) = (sums.length : Int) := by rw [List.length_map]
    generalize hn : (sums.length : Int) - 1 = n at *
    refine q_asg (v := .int n) (ev_is (ev_sub (ev_len (ev_var rfl) (ex_l e1 hsq)) ev_c) (by rw [hlen, hn])) fun H2 e2 => ?_
    refine q_asgL (el_lst ea_nil (by decide)) fun p H3 hp e3 h3 => ?_
    have e13 := (e1.trans e2).trans e3
    have hp0 : H p = none := fresh_back (e1.trans e2) hp
    have hcn : chN sums m kk = ((if n - m < kk then n - m else kk) + 1).toNat := by unfold chN; rw [hn]
    refine q_forR1 (n := (if n - m < kk then n - m else kk) + 1) (ea1 (ev_add (ev_min (ev_var rfl) (ev_sub (ev_var rfl) (ev_var rfl))) ev_c)) ⟨by split <;> omega, by split <;> omega⟩
      (fun i σ H' => ∃ (vs : List V) (a c : Option V), σ = [some (.ref l), some (.int limit), some (.ref t), some (.int depth), some (.int m), some (.int kk), some (.int n), some (.ref p), a, c] ∧ Ex H H' ∧ H' p = some (.lst vs) ∧ DpAll K H' vs (chsD ((List.range i).filterMap (chOne sums limit depth m kk))))
      (fun H4 e4 => ⟨[], none, none, rfl, e13.trans e4, e4 p _ h3, .nil⟩) ?_ ?_
    · rintro i σ H' hi ⟨vs, a, c, rfl, eh, hl, hd⟩
      have hvl : vs.length < 100000 := by
        rw [DpAll.len hd]
        have := fm_len (chOne sums limit depth m kk) (List.range i)
        rw [List.length_range] at this
        unfold chsD
        rw [List.length_map]
        split at hi <;> omega
      have hsq' := ex_l eh hsq
      have hi' : (i : Int) ≤ n - m := by split at hi <;> omega
      refine q_asg (v := .bl (decide (0 < depth) || decide ((i : Int) = 0))) (ev_orV (ev_op (ev_var rfl) ev_c rv_I0) fun _ => ev_eq (ev_var rfl) ev_c) fun H4 e4 => ?_
      generalize hok : (if depth = limit then decide ((i : Int) = n - m) else (decide (0 < depth) || decide ((i : Int) = 0))) = ok
      refine q_ifAsg (v := .bl ok) (et_test (ev_eq (ev_var rfl) (ev_var rfl))) (fun hb => ?_) (fun hb => ?_) fun H5 e5 => ?_
      · rw [if_pos (of_decide_eq_true hb)] at hok
        rw [← hok]
        exact ev_eq (ev_var rfl) (ev_sub (ev_var rfl) (ev_var rfl))
      · rw [if_neg (of_decide_eq_false hb)] at hok
        rw [hok]
        rfl
      have e45 := e4.trans e5
      have hone : chOne sums limit depth m kk i = if ok && decide (m + i = n) then some ((i : Int), 0, none) else if ok && decide ((i : Int) < kk) then some ((i : Int), sums.getD (m + i).toNat 0, some (depth + 1, m + i, if n - m - i < 2 * (kk - i) then n - m - i else 2 * (kk - i))) else none := by
        unfold chOne
        rw [hn]
        subst hok
        rfl
      rw [fm_succ]
      refine s_if (et_and (et_B (ev_var rfl)) fun _ => et_test (ev_eq (ev_add (ev_var rfl) (ev_var rfl)) (ev_var rfl))) (fun hb H6 e6 => ?_) (fun hb H6 e6 => ?_)
      · rw [hone, if_pos hb]
        have e46 := e45.trans e6
        refine s_appD (e46 p _ hl) (ev_var rfl) (ed_tup (eda_cons (ed_int (ev_var rfl)) (eda_cons (ed_int ev_c) (eda_cons (ed_non ev_c) eda_nil))) (by show 3 ≤ 100000; decide)) hvl fun v H7 e7 hv => ?_
        have e47 := e46.trans e7
        refine ⟨vs ++ [v], _, _, rfl, Ex.mut (eh.trans e47) hp0, upd_same, ?_⟩
        unfold chsD
        rw [List.map_append]
        exact dp_app (e47 p _ hl) (DpAll.ext e47 _ _ hd) hv (chsD_noList _) rfl
      · rw [hone, if_neg (by rw [hb]; exact Bool.false_ne_true)]
        refine s_if (et_and (et_B (ev_var rfl)) fun _ => et_test (ev_lt (ev_var rfl) (ev_var rfl))) (fun hb2 H7 e7 => ?_) (fun hb2 H7 e7 => ?_)
        · rw [if_pos hb2]
          have e47 := (e45.trans e6).trans e7
          have hix : (m + (i : Int)).toNat < sums.length := by omega
          refine s_appD (e47 p _ hl) (ev_var rfl) (ed_tup (eda_cons (ed_int (ev_var rfl)) (eda_cons (ed_int (ev_op (ev_var rfl) (ev_add (ev_var rfl) (ev_var rfl)) (rv_ixL (ex_l e47 hsq') (atI_at (i := (m + (i : Int)).toNat) (by omega) hix)))) (eda_cons
            (ed_tup (eda_cons (ed_int (ev_add (ev_var rfl) ev_c)) (eda_cons (ed_int (ev_add (ev_var rfl) (ev_var rfl))) (eda_cons (ed_int (ev_min (ev_op ev_c (ev_sub (ev_var rfl) (ev_var rfl)) (rv_mul (by decide))) (ev_sub (ev_sub (ev_var rfl) (ev_var rfl)) (ev_var rfl)))) eda_nil))) (by show 3 ≤ 100000; decide)) eda_nil))) (by show 3 ≤ 100000; decide)) hvl fun v H8 e8 hv => ?_
          have e48 := e47.trans e8
          refine ⟨vs ++ [v], _, _, rfl, Ex.mut (eh.trans e48) hp0, upd_same, ?_⟩
          unfold chsD
          rw [List.map_append]
          exact dp_app (e48 p _ hl) (DpAll.ext e48 _ _ hd) hv (chsD_noList _) rfl
        · rw [if_neg (by rw [hb2]; exact Bool.false_ne_true)]
          have e47 := (e45.trans e6).trans e7
          refine ⟨vs, _, _, rfl, eh.trans e47, e47 p _ hl, ?_⟩
          rw [Option.toList_none, List.append_nil]
          exact DpAll.ext e47 _ _ hd
    · rintro σ H' ⟨vs, a, c, rfl, eh, hl, hd⟩
      rw [← hcn] at hd
      refine s_ret (ev_var rfl) fun H2 e2 => q _ H2 (eh.trans e2) (.lst (sq_of (e2 p _ hl)) (DpAll.ext e2 _ _ hd))
end
end K03
set_option Elab.async false
set_option linter.all false
set_option maxRecDepth 100000
set_option maxHeartbeats 4000000
namespace K03
open PySem PySem.Spec PyProof.Rows L2 GX KC Evl M03
section
variable {P : Program} {w : World} {K : PySem.W.Frag} {mg : Str → Option Value} {base : Heap}
def spWc : Sp := fun vs H Q _ => ∃ (limit depth free left : Int), vs = [.int limit, .int depth, .int free, .int left] ∧ 0 ≤ left ∧ left ≤ 1000 ∧ 0 ≤ free ∧ RetL ((wc limit depth free left).map V.int) H Q
theorem el_rg1 {σ : L2.St} {H : Hp} {ta : TE} {n : Int} (h : Ev ta σ H (.int n)) (hn : 0 ≤ n ∧ n ≤ 100000) : EvL (tLstRg (tRg1 ta)) σ H (((List.range n.toNat).map fun (i : Nat) => (i : Int)).map V.int) := fun H1 e Q q =>
  h H1 e _ fun H2 e2 => ⟨n, rfl, RgOk.of_le (by omega) (by omega) (by omega) (by omega), fun p hp => by
    refine q p _ (fresh_back e2 hp) (e2.trans (Ex.new hp)) ?_
    rw [upd_same]
    congr 2
    unfold rgV
    rw [List.map_map, Int.sub_zero]
    refine List.map_congr_left fun i _ => ?_
    show V.int (0 + (i : Int)) = V.int (i : Int)
    rw [Int.zero_add]⟩
theorem ok_word_counts {f : Addr} {fd : FuncData} {k : Nat} (F : Fun K "word_counts" "word_counts" s_word_counts f fd) (B : Bs mg) : FnOk P w K mg base CX0 (k + 1) f fd ["limit", "depth", "free", "left"] spWc := by
  refine F.ok sc_word_counts (fun vs H Q E h => ?_) (fun cdv A outer s H vs Q E hr h => ?_)
  · obtain ⟨a, b, c, d, rfl, _⟩ := h
    rfl
  · obtain ⟨limit, depth, free, left, rfl, h1, h2, h3, q⟩ := h
    refine ⟨_, (pss_cons (ps_if (pt_cmpR op_eq (pv 1) pe_int (nomark _)) (pss_one (ps_ret (pe_lst (pa_cons pe_int pa_nil)))) pss_nil)
      (pss_cons (ps_if (pt_cmpR op_ge (pv 1) (pv 0) (nomark _)) (pss_one (ps_ret (pe_ifExp (pt_cmpR op_le (pv 3) (pv 2) (nomark _)) (pe_lst (pa_cons (pv 3) pa_nil)) (pe_lst pa_nil)))) pss_nil)
      (pss_one (ps_ret (pe_listRg rfl (by rfl) B.list (prg_1 (by rfl) B.range (pe_op op_add (pe_callB (call_min2 rfl) (by rfl) B.min (by decide +kernel) (pa_cons (pv 2) (pa_cons (pv 3) pa_nil))) pe_int))))))), ?_⟩
    unfold wc at q
    refine q_when (et_test (ev_eq (ev_var rfl) ev_c)) (fun hb H1 e1 => ?_) (fun hb H1 e1 => ?_)
    · rw [if_pos (of_decide_eq_true hb)] at q
      exact s_retL (el_lst (ea1 ev_c) (by decide)) fun p H2 hp e2 h2 => q p H2 (fresh_back e1 hp) (e1.trans e2) h2
    · rw [if_neg (of_decide_eq_false hb)] at q
      refine q_when (et_test (ev_op (ev_var rfl) (ev_var rfl) rv_I0)) (fun hb H2 e2 => ?_) (fun hb H2 e2 => ?_)
      · rw [if_pos (of_decide_eq_true hb)] at q
        by_cases hl : left ≤ free
        · rw [if_pos hl] at q
          exact s_retL (el_if (b := true) (et_is (et_test (ev_op (ev_var rfl) (ev_var rfl) rv_I0)) (decide_eq_true hl)) (fun _ => el_lst (ea1 (ev_var rfl)) (by show 1 ≤ 100000; decide)) (fun z => by cases z)) fun p H3 hp e3 h3 => q p H3 (fresh_back (e1.trans e2) hp) ((e1.trans e2).trans e3) h3
        · rw [if_neg hl] at q
          exact s_retL (el_if (b := false) (et_is (et_test (ev_op (ev_var rfl) (ev_var rfl) rv_I0)) (decide_eq_false hl)) (fun z => by cases z) (fun _ => el_lst ea_nil (by decide))) fun p H3 hp e3 h3 => q p H3 (fresh_back (e1.trans e2) hp) ((e1.trans e2).trans e3) h3
      · rw [if_neg (of_decide_eq_false hb)] at q
        exact s_retL (el_rg1 (ev_add (ev_min (ev_var rfl) (ev_var rfl)) ev_c) ⟨by split <;> omega, by split <;> omega⟩) fun p H3 hp e3 h3 => q p H3 (fresh_back (e1.trans e2) hp) ((e1.trans e2).trans e3) h3
theorem wc_mem {limit depth free left a : Int} (h0 : 0 ≤ left) (h : a ∈ wc limit depth free left) : 0 ≤ a ∧ a ≤ left := by
  unfold wc at h
  split at h
  · rw [List.mem_singleton] at h; omega
  · split at h
    · split at h
      · rw [List.mem_singleton] at h; omega
      · simp at h
    · obtain ⟨i, hi, rfl⟩ := List.mem_map.mp h
      have := List.mem_range.mp hi
      split at this <;> omega
theorem wc_len {limit depth free left : Int} (h2 : left ≤ 1000) : (wc limit depth free left).length ≤ 1001 := by
  unfold wc
  split
  · decide
  · split
    · split <;> simp
    · rw [List.length_map, List.length_range]
      split <;> omega
theorem fm_take {α β : Type} (f : α → Option β) (l : List α) {i : Nat} {x : α} (h : l[i]? = some x) : (l.take (i + 1)).filterMap f = (l.take i).filterMap f ++ (f x).toList := by
  rw [List.take_succ, h, List.filterMap_append]
  show _ ++ [x].filterMap f = _
  rw [List.filterMap_cons, List.filterMap_nil]
  cases f x <;> rfl
theorem ok_stage_choices {f : Addr} {fd : FuncData} {k : Nat} (F : Fun K "stage_choices" "stage_choices" s_stage_choices f fd) (B : Bs mg) (C_word_counts : Cal P w K mg base "word_counts" 1 ["limit", "depth", "free", "left"] spWc) : FnOk P w K mg base CX0 (k + 2) f fd ["sums", "limit", "stage"] (spCh K chP) := by
  refine F.ok sc_stage_choices (fun vs H Q E h => ?_) (fun cdv A outer s H vs Q E hr h => ?_)
  · obtain ⟨l, t, sums, limit, depth, m, kk, rfl, _⟩ := h
    rfl
  · obtain ⟨l, t, sums, limit, depth, m, kk, rfl, hs, q⟩ := h
    refine ⟨_, (pss_cons (ps_asg (pv 2) (pg_tup rfl (pgs_cons (pg_name (i := 3) sc_stage_choices.nd rfl (Or.inl rfl)) (pgs_cons (pg_name (i := 4) sc_stage_choices.nd rfl (Or.inl rfl)) (pgs_cons (pg_name (i := 5) sc_stage_choices.nd rfl (Or.inl rfl)) pgs_nil)))))
      (pss_cons (ps_set (i := 6) sc_stage_choices.nd rfl (Or.inl rfl) (pe_op op_sub (pe_op op_sub (pe_callB call_len_seq (by rfl) B.len PySem.boot_len (pa_cons (pv 0) pa_nil)) pe_int) (pv 4)))
      (pss_cons (ps_set (i := 7) sc_stage_choices.nd rfl (Or.inl rfl) (pe_lst pa_nil))
      (pss_cons (ps_for PassesOwn.never rfl (pi_list (pe_callC C_word_counts (hr.mono (by omega)) (by rfl) (pa_cons (pv 1) (pa_cons (pv 3) (pa_cons (pv 5) (pa_cons (pv 6) pa_nil)))))) (pg_name (i := 8) sc_stage_choices.nd rfl (Or.inl rfl)) (pss_one (ps_if (pt_cmpR op_eq (pv 8) (pv 6) (nomark _)) (pss_one (ps_expr (pe_bm PySem.F.plainAttrs_list PySem.F.slot_list_append PySem.F.type_list_append mt_append (pv 7) (pa_cons (pe_tup (pa_cons (pv 8) (pa_cons pe_int (pa_cons pe_non pa_nil)))) pa_nil)))) (pss_one (ps_if (pt_cmpR op_ne (pv 8) (pv 5) (nomark _)) (pss_one (ps_expr (pe_bm PySem.F.plainAttrs_list PySem.F.slot_list_append PySem.F.type_list_append mt_append (pv 7) (pa_cons (pe_tup (pa_cons (pv 8) (pa_cons (pe_ix ix_list (pv 0) (pe_op op_add (pv 4) (pv 8)) (fun _ _ => rfl)) (pa_cons (pe_tup (pa_cons (pe_op op_add (pv 3) pe_int) (pa_cons (pe_op op_add (pv 4) (pv 8)) (pa_cons (pe_callB (call_min2 rfl) (by rfl) B.min (by decide +kernel) (pa_cons (pe_op op_mul pe_int (pe_op op_sub (pv 5) (pv 8))) (pa_cons (pe_op op_sub (pv 6) (pv 8)) pa_nil))) pa_nil)))) pa_nil)))) pa_nil)))) pss_nil)))))
      (pss_one (ps_ret (pv 7))))))), ?_⟩
    obtain ⟨hsq, hst, ⟨o1, o2, o3, o4⟩, hln, hkk⟩ := hs
    refine q_unp (ev_var rfl) hst rfl fun H1 e1 => ⟨_, _, rfl, _, _, rfl, _, _, rfl, rfl, ?_⟩
    have hlen : ((sums.map V.int).length : Int) = (sums.length : Int) := by rw [List.length_map]
    generalize hn : (sums.length : Int) - 1 - m = left at *
    refine q_asg (v := .int left) (ev_is (ev_sub (ev_sub (ev_len (ev_var rfl) (ex_l e1 hsq)) ev_c) (ev_var rfl)) (by rw [hlen, hn])) fun H2 e2 => ?_
    refine q_asgL (el_lst ea_nil (by decide)) fun p H3 hp e3 h3 => ?_
    have e13 := (e1.trans e2).trans e3
    have hp0 : H p = none := fresh_back (e1.trans e2) hp
    have hxl : ((wc limit depth kk left).map V.int).length ≤ 1001 := by rw [List.length_map]; exact wc_len (by omega)
    refine q_forNL (xs := (wc limit depth kk left).map V.int) (el_call (ea_cons (ev_var rfl) (ea_cons (ev_var rfl) (ea2 (ev_var rfl) (ev_var rfl)))) fun H1 e1 Q q E => ⟨limit, depth, kk, left, rfl, by omega, by omega, by omega, fun p H2 hp e2 h2 => q p H2 hp e2 h2⟩)
      (fun w i σ H' => ∃ (vs : List V) (c : Option V), σ = [some (.ref l), some (.int limit), some (.ref t), some (.int depth), some (.int m), some (.int kk), some (.int left), some (.ref p), c] ∧ Ex H H' ∧ w ≠ p ∧ H' w = some (.lst ((wc limit depth kk left).map V.int)) ∧ H' p = some (.lst vs) ∧ DpAll K H' vs (chsD (((wc limit depth kk left).take i).filterMap (chOf sums depth m kk))))
      (fun w H4 hw e4 h4 => ⟨[], none, rfl, e13.trans e4, (fun z => by rw [z, h3] at hw; cases hw), h4, e4 p _ h3, .nil⟩)
      (fun w i σ H' _ hP => by
        obtain ⟨vs, c, _, _, _, hw, _⟩ := hP
        exact sq_of hw) ?_ ?_
    · rintro w i x σ H' hi ⟨vs, c, rfl, eh, hwp, hw, hl, hd⟩
      obtain ⟨a, hia, rfl⟩ : ∃ a, (wc limit depth kk left)[i]? = some a ∧ V.int a = x := by
        rw [List.getElem?_map] at hi
        cases hz : (wc limit depth kk left)[i]? with
        | none => rw [hz] at hi; cases hi
        | some a => rw [hz] at hi; exact ⟨a, rfl, Option.some.inj hi⟩
      have ham := wc_mem (by omega) (List.mem_of_getElem? hia)
      have hil : i < 1001 := by
        have := (List.getElem?_eq_some_iff.mp hia).1
        have := wc_len (limit := limit) (depth := depth) (free := kk) (left := left) (by omega)
        omega
      have hvl : vs.length < 100000 := by
        rw [DpAll.len hd]
        have := fm_len (chOf sums depth m kk) ((wc limit depth kk left).take i)
        rw [List.length_take] at this
        unfold chsD
        rw [List.length_map]
        omega
      have hsq' := ex_l eh hsq
      have hone : chOf sums depth m kk a = if a = left then some (a, 0, none) else if a ≠ kk then some (a, sums.getD (m + a).toNat 0, some (depth + 1, m + a, if left - a < 2 * (kk - a) then left - a else 2 * (kk - a))) else none := by
        unfold chOf
        rw [hn]
      rw [fm_take _ _ hia]
      refine s_if (et_test (ev_eq (ev_var rfl) (ev_var rfl))) (fun hb H6 e6 => ?_) (fun hb H6 e6 => ?_)
      · rw [hone, if_pos (of_decide_eq_true hb)]
        refine s_appD (e6 p _ hl) (ev_var rfl) (ed_tup (eda_cons (ed_int (ev_var rfl)) (eda_cons (ed_int ev_c) (eda_cons (ed_non ev_c) eda_nil))) (by show 3 ≤ 100000; decide)) hvl fun v H7 e7 hv => ?_
        have e47 := e6.trans e7
        refine ⟨vs ++ [v], _, rfl, Ex.mut (eh.trans e47) hp0, hwp, by rw [upd_ne hwp]; exact e47 w _ hw, upd_same, ?_⟩
        unfold chsD
        rw [List.map_append]
        exact dp_app (e47 p _ hl) (DpAll.ext e47 _ _ hd) hv (chsD_noList _) rfl
      · rw [hone, if_neg (of_decide_eq_false hb)]
        refine s_if (et_test (ev_ne (ev_var rfl) (ev_var rfl))) (fun hb2 H7 e7 => ?_) (fun hb2 H7 e7 => ?_)
        · have hne : a ≠ kk := by
            intro z
            rw [decide_eq_true z] at hb2
            cases hb2
          rw [if_pos hne]
          have e47 := e6.trans e7
          have hix : (m + a).toNat < sums.length := by omega
          refine s_appD (e47 p _ hl) (ev_var rfl) (ed_tup (eda_cons (ed_int (ev_var rfl)) (eda_cons (ed_int (ev_op (ev_var rfl) (ev_add (ev_var rfl) (ev_var rfl)) (rv_ixL (ex_l e47 hsq') (atI_at (i := (m + a).toNat) (by omega) hix)))) (eda_cons
            (ed_tup (eda_cons (ed_int (ev_add (ev_var rfl) ev_c)) (eda_cons (ed_int (ev_add (ev_var rfl) (ev_var rfl))) (eda_cons (ed_int (ev_min (ev_op ev_c (ev_sub (ev_var rfl) (ev_var rfl)) (rv_mul (by decide))) (ev_sub (ev_var rfl) (ev_var rfl)))) eda_nil))) (by show 3 ≤ 100000; decide)) eda_nil))) (by show 3 ≤ 100000; decide)) hvl fun v H8 e8 hv => ?_
          have e48 := e47.trans e8
          refine ⟨vs ++ [v], _, rfl, Ex.mut (eh.trans e48) hp0, hwp, by rw [upd_ne hwp]; exact e48 w _ hw, upd_same, ?_⟩
          unfold chsD
          rw [List.map_append]
          exact dp_app (e48 p _ hl) (DpAll.ext e48 _ _ hd) hv (chsD_noList _) rfl
        · have hne : ¬ (a ≠ kk) := by
            intro z
            rw [decide_eq_false z] at hb2
            cases hb2
          rw [if_neg hne]
          have e47 := e6.trans e7
          refine ⟨vs, _, rfl, eh.trans e47, hwp, e47 w _ hw, e47 p _ hl, ?_⟩
          rw [Option.toList_none, List.append_nil]
          exact DpAll.ext e47 _ _ hd
    · rintro w σ H' ⟨vs, c, rfl, eh, hwp, hw, hl, hd⟩
      rw [List.length_map, List.take_length] at hd
      have e9 : chP sums limit depth m kk = (wc limit depth kk left).filterMap (chOf sums depth m kk) := by
        unfold chP
        rw [hn]
      rw [e9] at q
      exact s_ret (ev_var rfl) fun H2 e2 => q _ H2 (eh.trans e2) (.lst (sq_of (e2 p _ hl)) (DpAll.ext e2 _ _ hd))
end
end K03
set_option Elab.async false
set_option linter.all false
set_option maxRecDepth 100000
set_option maxHeartbeats 4000000
namespace K03
open PySem PySem.Spec PyProof.Rows L2 GX KC Evl M03
section
variable {P : Program} {w : World} {K : PySem.W.Frag} {mg : Str → Option Value} {base : Heap}
/-! rests -/
theorem el_sortedI {σ : L2.St} {H : Hp} {ta : TE} {l : Addr} {ws : List Int} (h : Ev ta σ H (.ref l)) (hs : SqL K H l (ws.map V.int)) : EvL (tCB (rSortedI K) (tCons ta tNil)) σ H ((ranked ws).reverse.map V.int) := fun H1 e Q q =>
  h H1 e _ fun H2 e2 => ⟨l, ws, rfl, ex_l (e.trans e2) hs, fun ns' p hp hw hn => by
    rw [asc_is hp hw]
    exact q p _ (fresh_back e2 hn) (e2.trans (Ex.new hn)) upd_same⟩
theorem atI_lastD {L : List Int} (h : L ≠ []) : atI (L.map V.int) (-1) = some (.int (L.getLastD 0)) := by
  obtain ⟨M, z, e⟩ : ∃ M z, L = M ++ [z] := ⟨L.dropLast, L.getLast h, (List.dropLast_concat_getLast h).symm⟩
  subst e
  rw [List.map_append]
  show atI (M.map V.int ++ [V.int z]) (-1) = _
  rw [atI_last, List.getLastD_concat]
theorem ok_rests {f : Addr} {fd : FuncData} {k : Nat} (F : Fun K "rests" "rests" s_rests f fd) (B : Bs mg) : FnOk P w K mg base CX0 (k + 1) f fd ["weights"] (spSums K) := by
  refine F.ok sc_rests (fun vs H Q E h => ?_) (fun cdv A outer s H vs Q E hr h => ?_)
  · obtain ⟨l, ws, rfl, _⟩ := h
    rfl
  · obtain ⟨l, ws, rfl, hs, hn, q⟩ := h
    refine ⟨_, (pss_cons (ps_set (i := 1) sc_rests.nd rfl (Or.inl rfl) (pe_lst (pa_cons pe_int pa_nil)))
      (pss_cons (ps_for PassesOwn.never rfl (pi_list (pe_callB cr_sortedI (by rfl) B.sorted (by decide +kernel) (pa_cons (pv 0) pa_nil))) (pg_name (i := 2) sc_rests.nd rfl (Or.inl rfl)) (pss_one (ps_expr (pe_bm PySem.F.plainAttrs_list PySem.F.slot_list_append PySem.F.type_list_append mt_append (pv 1) (pa_cons (pe_op op_add (pe_ix ix_list (pv 1) (pe_un un_neg pe_int) (fun _ _ => rfl)) (pv 2)) pa_nil)))))
      (pss_one (ps_ret (pe_revL (pv 1)))))), ?_⟩
    refine q_asgL (el_lst (ea1 ev_c) (by decide)) fun p H1 hp e1 h1 => ?_
    have hrl : ((ranked ws).reverse.map V.int).length = ws.length := by rw [List.length_map, List.length_reverse, ranked_len]
    refine q_forNL (el_sortedI (ev_var rfl) (ex_l e1 hs))
      (fun a i σ H' => ∃ c, σ = [some (.ref l), some (.ref p), c] ∧ Ex H H' ∧ a ≠ p ∧ H' a = some (.lst ((ranked ws).reverse.map V.int)) ∧ H' p = some (.lst (((restL ((ranked ws).drop (ws.length - i))).reverse).map V.int)))
      (fun a H2 ha e2 h2 => ⟨none, rfl, e1.trans e2, (fun z => by rw [z, h1] at ha; cases ha), h2, ?_⟩)
      (fun a i σ H' _ hP => by
        obtain ⟨c, _, _, _, hw, _⟩ := hP
        exact sq_of hw) ?_ ?_
    · rw [e2 p _ h1, Nat.sub_zero, List.drop_of_length_le (by rw [ranked_len]; exact Nat.le_refl _)]
      rfl
    · rintro a i x σ H' hi ⟨c, rfl, eh, hap, ha, hl⟩
      have hiw : i < ws.length := by
        have := (List.getElem?_eq_some_iff.mp hi).1
        omega
      have hir : i < (ranked ws).reverse.length := by rw [List.length_reverse, ranked_len]; exact hiw
      have hx : x = .int ((ranked ws).reverse.getD i 0) := by
        have := int_at hir
        rw [this] at hi
        exact (Option.some.inj hi).symm
      subst hx
      have hst := asc_step (ranked ws).reverse i hir
      rw [List.reverse_reverse, List.length_reverse, ranked_len] at hst
      have hne : (restL ((ranked ws).drop (ws.length - i))).reverse ≠ [] := by
        intro z
        have h2 := congrArg List.length z
        rw [List.length_reverse, restL_len] at h2
        simp at h2
      have hlen : (((restL ((ranked ws).drop (ws.length - i))).reverse).map V.int).length < 100000 := by
        rw [List.length_map, List.length_reverse, restL_len, List.length_drop, ranked_len]; omega
      refine s_app hl (ev_var rfl) (ev_add (ev_op (ev_var rfl) (ev_un ev_c ru_neg) (rv_ixL (sq_of hl) (atI_lastD hne))) (ev_var rfl)) hlen fun H2 e2 => ?_
      refine ⟨_, rfl, Ex.mut (eh.trans e2) (fresh_back (Ex.refl H) hp), hap, by rw [upd_ne hap]; exact e2 a _ ha, ?_⟩
      rw [upd_same, hst, List.map_append]
      rfl
    · rintro a σ H' ⟨c, rfl, eh, hap, ha, hl⟩
      rw [hrl, Nat.sub_self, List.drop_zero] at hl
      refine s_retL (el_rev (ev_var rfl) (sq_of hl)) fun p2 H2 hp2 e2 h2 => q p2 H2 (fresh_back eh hp2) (eh.trans e2) ?_
      rw [h2, ← List.map_reverse, List.reverse_reverse]
      rfl
/-! choices -/
structure ChIn (K : PySem.W.Frag) (ws : List Int) (l t : Addr) (limit depth m k : Int) (H : Hp) : Prop where
  sq : SqL K H l (ws.map V.int)
  st : SqT K H t [.int depth, .int m, .int k]
  ok : StOk (sumsL ws) limit depth m k
  len : ws.length ≤ 64
  kk : k ≤ 1000
def spChoices (K : PySem.W.Frag) (g : List Int → Int → Int → Int → Int → List (Int × Int × Nxt)) : Sp := fun vs H Q _ => ∃ (l t : Addr) (ws : List Int) (limit depth m k : Int), vs = [.ref l, .int limit, .ref t] ∧ ChIn K ws l t limit depth m k H ∧ RetD K (.list (chsD (g (sumsL ws) limit depth m k))) H Q
theorem ok_choices {f : Addr} {fd : FuncData} {k : Nat} (F : Fun K "choices" "choices" s_choices f fd) (B : Bs mg) (C_rests : Cal P w K mg base "rests" 1 ["weights"] (spSums K)) (C_stage_choices : Cal P w K mg base "stage_choices" 2 ["sums", "limit", "stage"] (spCh K chP)) : FnOk P w K mg base CX0 (k + 3) f fd ["weights", "limit", "stage"] (spChoices K chP) := by
  refine F.ok sc_choices (fun vs H Q E h => ?_) (fun cdv A outer s H vs Q E hr h => ?_)
  · obtain ⟨l, t, ws, limit, depth, m, kk, rfl, _⟩ := h
    rfl
  · obtain ⟨l, t, ws, limit, depth, m, kk, rfl, ⟨h1, h2, h3, h4, h5⟩, q⟩ := h
    refine ⟨_, (pss_one (ps_ret (pe_callC C_stage_choices (hr.mono (by omega)) (by rfl) (pa_cons (pe_callC C_rests (hr.mono (by omega)) (by rfl) (pa_cons (pv 0) pa_nil)) (pa_cons (pv 1) (pa_cons (pv 2) pa_nil)))))), ?_⟩
    exact ⟨_, rfl, l, ws, rfl, h1, h4, fun p H2 hp e2 hl => ⟨_, rfl, _, rfl, p, t, sumsL ws, limit, depth, m, kk, rfl, ⟨sq_of hl, ex_t e2 h2, h3, by rw [sumsL_len]; omega, h5⟩, fun v H3 e3 hv => q v H3 (e2.trans e3) hv⟩⟩
theorem ok_law_choices {f : Addr} {fd : FuncData} {k : Nat} (F : Fun K "_law_choices" "_law_choices" s_law_choices f fd) (B : Bs mg) (C_law_sums : Cal P w K mg base "_law_sums" 2 ["weights"] (spSums K)) (C_law_choices_by : Cal P w K mg base "_law_choices_by" 1 ["sums", "limit", "stage"] (spCh K chL)) : FnOk P w K mg base CX0 (k + 3) f fd ["weights", "limit", "stage"] (spChoices K chL) := by
  refine F.ok sc_law_choices (fun vs H Q E h => ?_) (fun cdv A outer s H vs Q E hr h => ?_)
  · obtain ⟨l, t, ws, limit, depth, m, kk, rfl, _⟩ := h
    rfl
  · obtain ⟨l, t, ws, limit, depth, m, kk, rfl, ⟨h1, h2, h3, h4, h5⟩, q⟩ := h
    refine ⟨_, (pss_one (ps_ret (pe_callC C_law_choices_by (hr.mono (by omega)) (by rfl) (pa_cons (pe_callC C_law_sums (hr.mono (by omega)) (by rfl) (pa_cons (pv 0) pa_nil)) (pa_cons (pv 1) (pa_cons (pv 2) pa_nil)))))), ?_⟩
    exact ⟨_, rfl, l, ws, rfl, h1, h4, fun p H2 hp e2 hl => ⟨_, rfl, _, rfl, p, t, sumsL ws, limit, depth, m, kk, rfl, ⟨sq_of hl, ex_t e2 h2, h3, by rw [sumsL_len]; omega, h5⟩, fun v H3 e3 hv => q v H3 (e2.trans e3) hv⟩⟩
end
end K03
set_option Elab.async false
set_option linter.all false
set_option maxRecDepth 100000
set_option maxHeartbeats 4000000
namespace K03
open PySem PySem.Spec PyProof.Rows L2 GX KC Evl M03
section
variable {P : Program} {w : World} {K : PySem.W.Frag} {mg : Str → Option Value} {base : Heap}
/-! the sum over pairs -/
def sumF (n : Nat) (f : Nat → Int) : Int := ((List.range n).map f).sum
theorem sumF_succ (n : Nat) (f : Nat → Int) : sumF (n + 1) f = sumF n f + f n := by
  unfold sumF
  rw [List.range_succ, List.map_append, List.sum_append]
  simp
theorem sumF_bd (n : Nat) (f : Nat → Int) (B : Int) (hB : 0 ≤ B) (h : ∀ i, i < n → -B ≤ f i ∧ f i ≤ B) : -(n * B) ≤ sumF n f ∧ sumF n f ≤ n * B := by
  induction n with
  | zero => simp [sumF]
  | succ n ih =>
    obtain ⟨h1, h2⟩ := ih fun i hi => h i (by omega)
    obtain ⟨h3, h4⟩ := h n (by omega)
    rw [sumF_succ]
    have e : ((n + 1 : Nat) : Int) * B = n * B + B := by
      rw [Int.natCast_add, Int.add_mul]
      simp
    omega
def fV (n : Nat) (f : Nat → Int) : List V := (List.range n).map fun i => V.int (f i)
theorem fV_succ (n : Nat) (f : Nat → Int) : fV (n + 1) f = fV n f ++ [V.int (f n)] := by
  unfold fV
  rw [List.range_succ, List.map_append] <;> rfl
theorem fV_sum (n : Nat) (f : Nat → Int) : vsum (fV n f) = sumF n f := by
  unfold fV sumF
  have e : (List.range n).map (fun i => V.int (f i)) = ((List.range n).map f).map V.int := by rw [List.map_map]; rfl
  rw [e, vsum_ints]
theorem fV_len (n : Nat) (f : Nat → Int) : (fV n f).length = n := by
  unfold fV
  rw [List.length_map, List.length_range]
theorem ev_sumZ {σ : L2.St} {H : Hp} {te ta tb : TE} {Pt a b : Addr} {xs ys : List Int} {n : Nat} (f : Nat → Int) (ha : Ev ta σ H (.ref a)) (hb : Ev tb σ H (.ref b)) (hx : SqL K H a (xs.map V.int)) (hy : SqL K H b (ys.map V.int)) (h1 : xs.length = n) (h2 : ys.length = n) (hn : n ≤ 1000)
    (tab : H Pt = some (TabX Pt)) (hf : ∀ i, i < n → -(2 ^ 40) ≤ f i ∧ f i ≤ 2 ^ 40) (he : ∀ i, i < n → ∀ H1, Ex H H1 → Ev te [some (.int (xs.getD i 0)), some (.int (ys.getD i 0))] H1 (.int (f i))) :
    Ev (tSumG (tGx Pt (iZip K (tCons ta (tCons tb tNil))) (gTup K 2 (gCons (gName 0) (gCons (gName 1) gNil))) tYes te [none, none] [0, 1])) σ H (.int (sumF n f)) := fun H1 e Q q =>
  ha H1 e _ fun H2 e2 => hb H2 (e.trans e2) _ fun H3 e3 => by
    have e13 := e2.trans e3
    have e03 := e.trans e13
    have hxl : (xs.map V.int).length = n := by rw [List.length_map]; exact h1
    have hyl : (ys.map V.int).length = n := by rw [List.length_map]; exact h2
    refine ⟨a, b, _, _, rfl, ex_l e03 hx, ex_l e03 hy, e03 Pt _ tab, fun i m zs H' => m + i = n ∧ Ex H3 H' ∧ zs = fV i f, ⟨n, by omega, Ex.refl _, rfl⟩, ?_⟩
    rintro i m zs H' ⟨hm, e4, rfl⟩
    have e04 := e03.trans e4
    by_cases hi : i < n
    · right
      refine ⟨⟨_, _, _, _, ex_l e04 hx, ex_l e04 hy, int_at (by omega), int_at (by omega)⟩, fun zs H5 => (m - 1) + (i + 1) = n ∧ Ex H3 H5 ∧ zs = fV (i + 1) f, fun zs H5 q => ⟨m - 1, by omega, q⟩, ?_⟩
      rintro v H5 ⟨T, x, y, rfl, hT, rfl, hx1, hy1⟩
      have ex1 := (Option.some.inj ((int_at (by omega : i < xs.length)).symm.trans (hx1 _ (ex_l e04 hx)))).symm
      have ey1 := (Option.some.inj ((int_at (by omega : i < ys.length)).symm.trans (hy1 _ (ex_l e04 hy)))).symm
      subst ex1
      subst ey1
      have e45 : Ex H' (upd H' T (.tup [.int (xs.getD i 0), .int (ys.getD i 0)])) := Ex.new hT
      refine ⟨T, _, rfl, .inl (.inl upd_same), rfl, _, _, rfl, _, _, rfl, rfl, rfl, ?_⟩
      show te [some (.int (xs.getD i 0)), some (.int (ys.getD i 0))] _ _
      refine he i hi _ (e04.trans e45) _ (Ex.refl _) _ fun H6 e6 => ?_
      have hb1 := sumF_bd i f (2 ^ 40) (by decide) fun j hj => hf j (by omega)
      have hb2 := hf i hi
      have hiB : (i : Int) * 2 ^ 40 ≤ 1000 * 2 ^ 40 := by omega
      refine ⟨sz_lt (by rw [fV_len]; omega), ⟨f i, rfl, ⟨by omega, by omega⟩, ?_⟩, by omega, (e4.trans e45).trans e6, (fV_succ i f).symm⟩
      rw [fV_sum]
      exact ⟨by omega, by omega⟩
    · left
      have hin : i = n := by omega
      subst hin
      refine ⟨⟨_, _, ex_l e04 hx, ex_l e04 hy, .inl (by rw [hxl]; exact Nat.le_refl _)⟩, ?_⟩
      show Q (.int (vsum (fV i f))) H'
      rw [fV_sum]
      exact q H' (e13.trans e4)
def costF (ws ls : List Int) (i : Nat) : Int := ws.getD i 0 * ls.getD i 0
def spCost (K : PySem.W.Frag) (Pt : Addr) : Sp := fun vs H Q _ => ∃ (l t : Addr) (ws ls : List Int), vs = [.ref l, .ref t] ∧ SqL K H l (ws.map V.int) ∧ SqL K H t (ls.map V.int) ∧ ws.length = ls.length ∧ ws.length ≤ 1000 ∧ H Pt = some (TabX Pt) ∧
  (∀ i, i < ws.length → -(2 ^ 62) < ws.getD i 0 ∧ ws.getD i 0 < 2 ^ 62 ∧ -(2 ^ 40) ≤ costF ws ls i ∧ costF ws ls i ≤ 2 ^ 40) ∧ ∀ H2, Ex H H2 → Q (.int (sumF ws.length (costF ws ls))) H2
theorem ok_cost {f c Pt : Addr} {fd : FuncData} {k : Nat} (F : FunT K "cost" "cost" s_cost f fd c) (TB : GxR.TabB base mg c Pt) (B : Bs mg) : FnOk P w K mg base CX0 (k + 6) f fd ["weights", "lengths"] (spCost K Pt) := by
  refine F.ok sc_cost (fun vs H Q E h => ?_) (fun A outer s H vs Q E hr h => ?_)
  · obtain ⟨l, t, ws, ls, rfl, _⟩ := h
    rfl
  · obtain ⟨l, t, ws, ls, rfl, hs, ht, hl, hn, htab, hb, q⟩ := h
    refine ⟨_, (pss_one (ps_ret (pe_sumG (k := 0) (pgx_gen (g := (gTup K 2 (gCons (gName 0) (gCons (gName 1) gNil)))) (N' := ["weight", "length"]) (cm := [none, none]) (own := [0, 1]) (k0 := 0) (k := 0) (hr.mono (by omega)) TB rfl (capOk_by (N := ["weights", "lengths"]) (sc := defScope s_cost) (by decide +kernel)) (pi_zip (by rfl) B.zip (pa_cons (pv 0) (pa_cons (pv 1) pa_nil))) (fun _ _ _ _ _ _ _ _ _ => (pg_tup rfl (pgs_cons (pg_name (i := 0) (show List.Nodup (["weight", "length"] : List Str) by decide +kernel) rfl (Or.inl rfl)) (pgs_cons (pg_name (i := 1) (show List.Nodup (["weight", "length"] : List Str) by decide +kernel) rfl (Or.inl rfl)) pgs_nil)))) (fun _ _ _ _ _ _ _ _ _ => pts_nil) (fun _ _ _ _ _ _ _ _ _ => (pe_op op_mul (pv 0) (pv 1)))) (hr.mono (by omega)) (by rfl) B.sum))), ?_⟩
    exact s_ret (ev_sumZ (K := K) (costF ws ls) (ev_var rfl) (ev_var rfl) hs ht rfl hl.symm hn htab (fun i hi => (hb i hi).2.2) fun i hi H1 e1 => ev_op (ev_var rfl) (ev_var rfl) (rv_mul (by have := hb i hi; omega))) q
end
end K03
set_option Elab.async false
set_option linter.all false
set_option maxRecDepth 100000
set_option maxHeartbeats 4000000
namespace K03
open PySem PySem.Spec PyProof.Rows L2 GX KC Evl M03
section
variable {P : Program} {w : World} {K : PySem.W.Frag} {mg : Str → Option Value} {base : Heap}
theorem el_lcLG {σ : L2.St} {H : Hp} {a : Addr} {xs : List V} {tl te : TE} {t : TT} {g : TG} {vs : List Nat} (f : Nat → Bool) (v : Nat → V) (h : Ev tl σ H (.ref a)) (hx : SqL K H a xs) (hz : xs.length ≤ 40000)
    (hg : ∀ (i : Nat) (x : V) H', Ex H H' → xs[i]? = some x → ∃ σ2, wipe σ2 vs = wipe σ vs ∧ (∀ H2, Ex H H2 → EvT t σ2 H2 (f i)) ∧ (∀ H2, Ex H H2 → f i = true → Ev te σ2 H2 (v i)) ∧ ∀ R : L2.St → Hp → Prop, R σ2 H' → g x (wipe σ vs) H' R) :
    EvL (tLc (iList K tl) g t te vs) σ H (given xs.length f v) := fun H0 e Q q => h H0 e _ fun H1 e1 => ⟨a, rfl, ⟨xs, ex_l (e.trans e1) hx⟩, fun Dl hD =>
  lc_list (xs := xs) (Cw H1 f v Dl) ⟨hD, Ex.new hD, upd_same⟩ (fun i H' _ p => ex_l ((e.trans e1).trans p.2.1) hx) (fun i x H' hi p => by
    obtain ⟨σ2, g1, g2, g3, g4⟩ := hg i x H' ((e.trans e1).trans p.2.1) hi
    exact g4 _ ⟨g1, cw_turn p (by have := (List.getElem?_eq_some_iff.mp hi).1; omega) (g2 H1 (e.trans e1)) (fun hf => g3 H1 (e.trans e1) hf)⟩)
    (fun H' p => q Dl H' (fresh_back e1 p.1) (e1.trans p.2.1) p.2.2)⟩
theorem t_yes {σ : L2.St} {H : Hp} {A B : Hp → Prop} (h : A H) : tYes σ H (fun b H3 => if b = true then A H3 else B H3) := by
  show (if true = true then A H else B H)
  rw [if_pos rfl]
  exact h
/-- the pairs (minus weight, symbol) -/
def PrAt (ws : List Int) (H : Hp) (ys : List V) (n : Nat) : Prop := ys.length = n ∧ ∀ j, j < n → ∃ t, ys[j]? = some (.ref t) ∧ H t = some (.tup [.int (-(ws.getD j 0)), .int (j : Int)])
theorem PrAt.ext {ws : List Int} {H H' : Hp} {ys : List V} {n : Nat} (e : Ex H H') (h : PrAt ws H ys n) : PrAt ws H' ys n := ⟨h.1, fun j hj => by
  obtain ⟨t, h1, h2⟩ := h.2 j hj
  exact ⟨t, h1, e t _ h2⟩⟩
theorem PrAt.add {ws : List Int} {H : Hp} {ys : List V} {n : Nat} {t : Addr} (h : PrAt ws H ys n) (ht : H t = some (.tup [.int (-(ws.getD n 0)), .int (n : Int)])) : PrAt ws H (ys ++ [.ref t]) (n + 1) := by
  refine ⟨by rw [List.length_append, h.1]; rfl, fun j hj => ?_⟩
  by_cases e : j < n
  · obtain ⟨u, h1, h2⟩ := h.2 j e
    exact ⟨u, by rw [List.getElem?_append_left (by rw [h.1]; exact e)]; exact h1, h2⟩
  · have : j = n := by omega
    subst this
    exact ⟨t, by rw [List.getElem?_append_right (by rw [h.1]; exact Nat.le_refl _), h.1, Nat.sub_self]; rfl, ht⟩
def keyOf (H : Hp) : V → Int × Int
  | .ref t => match H t with
    | some (.tup [.int a, .int b]) => (a, b)
    | _ => (0, 0)
  | _ => (0, 0)
theorem keyOf_tup {H : Hp} {t : Addr} {a b : Int} (h : H t = some (.tup [.int a, .int b])) : keyOf H (.ref t) = (a, b) := by
  show (match H t with | some (.tup [.int a, .int b]) => (a, b) | _ => ((0 : Int), (0 : Int))) = _
  rw [h]
def symOf (H : Hp) (z : V) : Nat := (keyOf H z).2.toNat
theorem sorted_syms {ws : List Int} {H : Hp} {ys zs : List V} (h : PrAt ws H ys ws.length) (hp : zs.Perm ys) (hs : SrtO.Srtd (ltP (keyOf H)) zs) : zs.map (symOf H) = rankL ws := by
  have hy : ∀ z ∈ ys, ∃ j t, j < ws.length ∧ z = .ref t ∧ H t = some (.tup [.int (-(ws.getD j 0)), .int (j : Int)]) := fun z hz => by
    obtain ⟨j, hj⟩ := List.mem_iff_getElem?.mp hz
    have hjl : j < ws.length := by rw [← h.1]; exact (List.getElem?_eq_some_iff.mp hj).1
    obtain ⟨t, h1, h2⟩ := h.2 j hjl
    rw [hj] at h1
    exact ⟨j, t, hjl, Option.some.inj h1, h2⟩
  have hsym : ∀ z ∈ ys, keyOf H z = (-(wAt ws (symOf H z)), (symOf H z : Int)) ∧ symOf H z < ws.length := fun z hz => by
    obtain ⟨j, t, hj, rfl, ht⟩ := hy z hz
    have hk := keyOf_tup ht
    have e : symOf H (.ref t) = j := by unfold symOf; rw [hk]; simp
    rw [e, hk]
    exact ⟨rfl, hj⟩
  have hys : ys.map (symOf H) = List.range ws.length := by
    refine List.ext_getElem? fun j => ?_
    rw [List.getElem?_map]
    by_cases hj : j < ws.length
    · obtain ⟨t, h1, h2⟩ := h.2 j hj
      rw [h1, List.getElem?_range hj]
      show some (symOf H (.ref t)) = _
      unfold symOf
      rw [keyOf_tup h2]
      simp
    · rw [List.getElem?_eq_none (by rw [h.1]; omega), List.getElem?_eq_none (by rw [List.length_range]; omega)]
      rfl
  have hperm : (zs.map (symOf H)).Perm (List.range ws.length) := by rw [← hys]; exact hp.map _
  refine IsRank.uniq ⟨?_, fun k => by rw [hperm.mem_iff, List.mem_range]⟩ (rank_is ws)
  have hnd : (zs.map (symOf H)).Nodup := hperm.nodup_iff.mpr List.nodup_range
  have hnd2 : zs.Pairwise fun a b => symOf H a ≠ symOf H b := List.pairwise_map.mp hnd
  refine List.pairwise_map.mpr ?_
  have h3 := hs.and hnd2
  refine List.Pairwise.imp_of_mem (fun {a b} ha hb hab => ?_) h3
  obtain ⟨ka, _⟩ := hsym a (hp.mem_iff.mp ha)
  obtain ⟨kb, _⟩ := hsym b (hp.mem_iff.mp hb)
  obtain ⟨h4, h5⟩ := hab
  have h6 := SrtO.lexB_no.mp h4
  rw [ka, kb] at h6
  unfold Rk
  simp only at h6
  omega
def spRanksP (K : PySem.W.Frag) (Pt : Addr) : Sp := fun vs H Q _ => ∃ (l : Addr) (ws : List Int), vs = [.ref l] ∧ SqL K H l (ws.map V.int) ∧ ws.length ≤ 64 ∧ H Pt = some (TabX Pt) ∧ RetL (nats (rankL ws)) H Q
theorem ok_ranks {f c Pt : Addr} {fd : FuncData} {k : Nat} (F : FunT K "ranks" "ranks" s_ranks f fd c) (TB : GxR.TabB base mg c Pt) (B : Bs mg) : FnOk P w K mg base CX0 (k + 7) f fd ["weights"] (spRanksP K Pt) := by
  refine F.ok sc_ranks (fun vs H Q E h => ?_) (fun A outer s H vs Q E hr h => ?_)
  · obtain ⟨l, ws, rfl, _⟩ := h
    rfl
  · obtain ⟨l, ws, rfl, hs, hn, htab, q⟩ := h
    refine ⟨_, (pss_cons (ps_set (i := 1) sc_ranks.nd rfl (Or.inl rfl) (pe_sortedG (k := 0) (pgx_gen (g := (gTup K 2 (gCons (gName 0) (gCons (gName 1) gNil)))) (N' := ["symbol", "weight"]) (cm := [none, none]) (own := [0, 1]) (k0 := 0) (k := 0) (hr.mono (by omega)) TB rfl (capOk_by (N := ["weights", "order", "_", "symbol"]) (sc := defScope s_ranks) (by decide +kernel)) (pi_enum (by rfl) B.enumerate (pa_cons (pv 0) pa_nil)) (fun _ _ _ _ _ _ _ _ _ => (pg_tup rfl (pgs_cons (pg_name (i := 0) (show List.Nodup (["symbol", "weight"] : List Str) by decide +kernel) rfl (Or.inl rfl)) (pgs_cons (pg_name (i := 1) (show List.Nodup (["symbol", "weight"] : List Str) by decide +kernel) rfl (Or.inl rfl)) pgs_nil)))) (fun _ _ _ _ _ _ _ _ _ => pts_nil) (fun _ _ _ _ _ _ _ _ _ => (pe_tup (pa_cons (pe_un un_neg (pv 1)) (pa_cons (pv 0) pa_nil))))) (fun _ => mt_sortPO) (hr.mono (by omega)) (by rfl) B.sorted))
      (pss_one (ps_ret (pe_lc (g := (gTup K 2 (gCons (gName 2) (gCons (gName 3) gNil)))) rfl sc_ranks.nd (pi_list (pv 1)) (blkOk_by (own := [("_", 2), ("symbol", 3)]) (N := ["weights", "order", "_", "symbol"]) (sc := defScope s_ranks) (by decide +kernel)) (fun _ _ _ _ _ => (pg_tup rfl (pgs_cons (pg_name (i := 2) sc_ranks.nd rfl (Or.inl rfl)) (pgs_cons (pg_name (i := 3) sc_ranks.nd rfl (Or.inl rfl)) pgs_nil)))) (fun _ _ _ _ _ => pts_nil) (fun _ _ _ _ _ => (pv 3)))))), ?_⟩
    have hxl : (ws.map V.int).length = ws.length := List.length_map _
    refine ⟨_, rfl, l, _, rfl, hs, htab, fun i m zs H' => m + i = ws.length ∧ Ex H H' ∧ PrAt ws H' zs i, ⟨ws.length, by omega, Ex.refl _, rfl, fun j hj => by omega⟩, ?_⟩
    rintro i m zs H' ⟨hm, e4, hpr⟩
    by_cases hi : i < ws.length
    · right
      refine ⟨⟨_, _, ex_l e4 hs, int_at hi⟩, fun zs H5 => (m - 1) + (i + 1) = ws.length ∧ Ex H H5 ∧ PrAt ws H5 zs (i + 1), fun zs H5 q => ⟨m - 1, by omega, q⟩, ?_⟩
      rintro v H5 ⟨T, x, rfl, hT, rfl, hx1⟩
      have ex1 := (Option.some.inj ((int_at hi).symm.trans (hx1 _ (ex_l e4 hs)))).symm
      subst ex1
      have e45 : Ex H' (upd H' T (.tup [.int (i : Int), .int (ws.getD i 0)])) := Ex.new hT
      refine ⟨T, _, rfl, .inl (.inl upd_same), rfl, _, _, rfl, _, _, rfl, rfl, rfl, ?_⟩
      refine t_yes ?_
      show tTup (tCons (tUn (rU fun i => V.int (-i)) (tVar 1)) (tCons (tVar 0) tNil)) [some (.int (i : Int)), some (.int (ws.getD i 0))] _ _
      refine (eu_tup (σ := [some (.int (i : Int)), some (.int (ws.getD i 0))]) (ea2 (ev_un (x := .int (ws.getD i 0)) (ev_var (i := 1) rfl) ru_neg) (ev_var (i := 0) (v := .int (i : Int)) rfl)) (by show 2 ≤ 100000; decide)) _ (Ex.refl _) _ fun p H6 hp e6 h6 => ?_
      have e46 := e45.trans e6
      exact ⟨sz_lt (by rw [hpr.1]; omega), trivial, by omega, e4.trans e46, (hpr.ext e46).add h6⟩
    · left
      have hin : i = ws.length := by omega
      subst hin
      refine ⟨⟨_, ex_l e4 hs, by rw [hxl]; exact Nat.le_refl _⟩, fun o ho => ?_⟩
      have ne : ∀ t u, H' t = some u → t ≠ o := fun t u h z => by rw [z, ho] at h; cases h
      have eo : Ex H' (upd H' o (.lst zs)) := Ex.new ho
      refine ⟨o, zs, keyOf H', rfl, rfl, upd_same, fun y hy => ?_, fun zs' hsr hst => ?_⟩
      · obtain ⟨j, hj⟩ := List.mem_iff_getElem?.mp hy
        have hjl : j < ws.length := by rw [← hpr.1]; exact (List.getElem?_eq_some_iff.mp hj).1
        obtain ⟨t, h1, h2⟩ := hpr.2 j hjl
        rw [hj] at h1
        have ey := Option.some.inj h1
        subst ey
        refine ⟨t, rfl, ?_⟩
        rw [keyOf_tup h2]
        exact eo t _ h2
      · have hsy := sorted_syms hpr hst.perm hsr
        have hzl : zs'.length = ws.length := by rw [hst.perm.length_eq, hpr.1]
        have hov : upd (upd H' o (.lst zs)) o (.lst zs') = upd H' o (.lst zs') := by
          funext b
          by_cases e : b = o
          · rw [e, upd_same, upd_same]
          · rw [upd_ne e, upd_ne e, upd_ne e]
        rw [hov]
        have e0o : Ex H (upd H' o (.lst zs')) := e4.trans (Ex.new ho)
        have hz : ∀ i x, zs'[i]? = some x → ∃ t, x = .ref t ∧ i < ws.length ∧ H' t = some (.tup [.int (-(ws.getD ((rankL ws).getD i 0) 0)), .int ((rankL ws).getD i 0 : Nat)]) := fun i x hx => by
          have hil : i < ws.length := by rw [← hzl]; exact (List.getElem?_eq_some_iff.mp hx).1
          have hm := hst.perm.mem_iff.mp (List.mem_of_getElem? hx)
          obtain ⟨j, hj⟩ := List.mem_iff_getElem?.mp hm
          have hjl : j < ws.length := by rw [← hpr.1]; exact (List.getElem?_eq_some_iff.mp hj).1
          obtain ⟨t, h1, h2⟩ := hpr.2 j hjl
          rw [hj] at h1
          have ey := Option.some.inj h1
          subst ey
          have hsj : symOf H' (.ref t) = j := by unfold symOf; rw [keyOf_tup h2]; simp
          have hr1 : (rankL ws).getD i 0 = j := by
            rw [← hsy, List.getD_eq_getElem?_getD, List.getElem?_map, hx]
            exact hsj
          rw [hr1]
          exact ⟨t, rfl, hil, h2⟩
        show tRet (tLc (iList K (tVar 1)) (gTup K 2 (gCons (gName 2) (gCons (gName 3) gNil))) tYes (tVar 3) [2, 3]) { nx := fun _ H' => Q .non H', rt := Q } [some (.ref l), some (.ref o), none, none] _
        refine s_retL (xs := nats (rankL ws)) ?_ fun p H8 hp e8 h8 => q p H8 (fresh_back e0o hp) (e0o.trans e8) h8
        have hgv : nats (rankL ws) = given zs'.length (fun _ => true) fun i => V.int ((rankL ws).getD i 0 : Nat) := by
          unfold given
          rw [List.filter_eq_self.mpr fun _ _ => rfl, hzl]
          refine List.ext_getElem? fun j => ?_
          unfold nats
          rw [List.getElem?_map, List.getElem?_map]
          by_cases hj : j < ws.length
          · rw [List.getElem?_range hj, List.getElem?_eq_getElem (by rw [rank_len]; exact hj), Option.map_some, Option.map_some, List.getD_eq_getElem?_getD, List.getElem?_eq_getElem (by rw [rank_len]; exact hj)]
            rfl
          · rw [List.getElem?_eq_none (by rw [rank_len]; omega), List.getElem?_eq_none (by rw [List.length_range]; omega)]
            rfl
        rw [hgv]
        refine el_lcLG (K := K) _ _ (ev_var rfl) (sq_of upd_same) (by omega) fun i x H9 e9 hx => ?_
        obtain ⟨t, rfl, hil, ht⟩ := hz i x hx
        have ht9 : H9 t = some (.tup [.int (-(ws.getD ((rankL ws).getD i 0) 0)), .int ((rankL ws).getD i 0 : Nat)]) := e9 t _ (by rw [upd_ne (ne t _ ht)]; exact ht)
        exact ⟨[some (.ref l), some (.ref o), some (.int (-(ws.getD ((rankL ws).getD i 0) 0))), some (.int ((rankL ws).getD i 0 : Nat))], rfl, fun H2 _ => fun H3 _ R r => r H3 (Ex.refl H3), fun H2 _ _ => ev_var rfl, fun R r => ⟨t, _, rfl, .inl (.inl ht9), rfl, _, _, rfl, _, _, rfl, rfl, r⟩⟩
end
end K03
set_option Elab.async false
set_option linter.all false
set_option maxRecDepth 100000
set_option maxHeartbeats 4000000
namespace K03
open PySem PySem.Spec PyProof.Rows L2 GX KC Evl M03
section
variable {P : Program} {w : World} {K : PySem.W.Frag} {mg : Str → Option Value} {base : Heap}
theorem weightOf_bd (c : Int) : 0 ≤ weightOf c ∧ weightOf c ≤ 1000000 := by
  unfold weightOf
  split
  · omega
  · split <;> omega
theorem weightsL_at {ns : List Int} {f n i : Nat} (h : i < n) : (weightsL ns f n).getD i 0 = weightOf (cellOf ns (f + i)) := by
  unfold weightsL
  rw [List.getD_eq_getElem?_getD, List.getElem?_map, List.getElem?_range h] <;> rfl
def lensL (ns : List Int) (n : Nat) : List Int := (List.range n).map fun (k : Nat) => cellOf ns (20 + k) % 21
theorem lensL_len (ns : List Int) (n : Nat) : (lensL ns n).length = n := by simp [lensL]
theorem lensL_at {ns : List Int} {n i : Nat} (h : i < n) : (lensL ns n).getD i 0 = cellOf ns (20 + i) % 21 := by
  unfold lensL
  rw [List.getD_eq_getElem?_getD, List.getElem?_map, List.getElem?_range h] <;> rfl
theorem given_all (n : Nat) (v : Nat → Int) : given n (fun _ => true) (fun k => V.int (v k)) = ((List.range n).map v).map V.int := by
  unfold given
  rw [List.filter_eq_self.mpr fun _ _ => rfl, List.map_map] <;> rfl
theorem nats_ints (a : List Nat) : nats a = (a.map fun (k : Nat) => (k : Int)).map V.int := by
  unfold nats
  rw [List.map_map] <;> rfl
theorem chD_lay (x : Int × Int × Nxt) : (chD x).canLay0 = true := by
  obtain ⟨a, c, n⟩ := x
  cases n <;> simp [chD, nxD, PyData.canLay0, PyData.canLayAll0]
theorem chD_depth (x : Int × Int × Nxt) : (chD x).depth ≤ 10 := by
  obtain ⟨a, c, n⟩ := x
  cases n <;> simp [chD, nxD, PyData.depth, PyData.depthAll]
theorem chD_eqv (x : Int × Int × Nxt) : PyData.eqv (chD x) (chD x) = true := by
  obtain ⟨a, c, n⟩ := x
  cases n <;> simp [chD, nxD, PyData.eqv, PyData.eqvAll]
theorem chs_shaped (xs : List (Int × Int × Nxt)) : SeqAt.shaped (.list (chsD xs)) = true := shaped_list (n := 10) (by decide) chD_lay chD_depth xs
theorem chs_eqv (xs : List (Int × Int × Nxt)) : PyData.eqv (.list (chsD xs)) (.list (chsD xs)) = true := eqv_list chD_eqv xs
def spLaw (K : PySem.W.Frag) (P1 P2 : Addr) : Sp := fun vs H Q _ => ∃ (a : Addr) (ns : List Int), vs = [.ref a] ∧ SqL K H a (ns.map V.int) ∧ ns.length ≤ 63 ∧ H P1 = some (TabX P1) ∧ H P2 = some (TabX P2) ∧ ∀ H2, Ex H H2 → Q (.bl true) H2
theorem sp_ranksP {H : Hp} {l Pt : Addr} {ws : List Int} (hs : SqL K H l (ws.map V.int)) (hn : ws.length ≤ 64) (ht : H Pt = some (TabX Pt)) : SpL (spRanksP K Pt) ([.ref l] ++ []) H (nats (rankL ws)) := fun H1 e1 Q q E =>
  ⟨l, ws, rfl, ex_l e1 hs, hn, e1 Pt _ ht, fun p H2 hp e2 h2 => q p H2 hp e2 h2⟩
theorem sp_weights {H : Hp} {l : Addr} {ns : List Int} {f n : Nat} {i j : Int} (hs : SqL K H l (ns.map V.int)) (hn : n ≤ 1000) (ei : i = (f : Int)) (ej : j = (n : Int)) : SpL (spWeights K) ([.ref l, .int i, .int j] ++ []) H ((weightsL ns f n).map V.int) := fun H1 e1 Q q E =>
  ⟨l, ns, f, n, by rw [ei, ej]; rfl, ex_l e1 hs, hn, fun p H2 hp e2 h2 => q p H2 hp e2 h2⟩
theorem sp_lim {H : Hp} {n : Nat} : SpV spLim ([.int (n : Int)] ++ []) H (.int (llim n : Nat)) := fun H1 e1 Q q E => ⟨n, rfl, q⟩
theorem sp_choices {g : List Int → Int → Int → Int → Int → List (Int × Int × Nxt)} {H : Hp} {l t : Addr} {ws : List Int} {limit depth m k : Int} (h1 : SqL K H l (ws.map V.int)) (h2 : SqT K H t [.int depth, .int m, .int k]) (h3 : StOk (sumsL ws) limit depth m k) (h4 : ws.length ≤ 64) (h5 : k ≤ 1000) :
    SpD K (spChoices K g) [.ref l, .int limit, .ref t] H (.list (chsD (g (sumsL ws) limit depth m k))) := fun H1 e1 Q q E => ⟨l, t, ws, limit, depth, m, k, rfl, ⟨ex_l e1 h1, ex_t e1 h2, h3, h4, h5⟩, q⟩
theorem ok_law {f P1 P2 : Addr} {fd : FuncData} {k : Nat} (F : Fun K "law" "law" s_law f fd) (B : Bs mg)
    (C_law_cell : Cal P w K mg base "_law_cell" 1 ["script", "k"] (spCell K)) (C_law_weights : Cal P w K mg base "_law_weights" 2 ["script", "first", "many"] (spWeights K))
    (C_law_least_limit : Cal P w K mg base "_law_least_limit" 1 ["many"] spLim) (C_ranks : Cal P w K mg base "ranks" 7 ["weights"] (spRanksP K P1)) (C_law_ranks : Cal P w K mg base "_law_ranks" 1 ["weights"] (spRanks K))
    (C_choices : Cal P w K mg base "choices" 3 ["weights", "limit", "stage"] (spChoices K chP)) (C_law_choices : Cal P w K mg base "_law_choices" 3 ["weights", "limit", "stage"] (spChoices K chL))
    (C_cost : Cal P w K mg base "cost" 6 ["weights", "lengths"] (spCost K P2)) : FnOk P w K mg base CX0 (k + 8) f fd ["script"] (spLaw K P1 P2) := by
  refine F.ok sc_law (fun vs H Q E h => ?_) (fun cdv A outer s H vs Q E hr h => ?_)
  · obtain ⟨a, ns, rfl, _⟩ := h
    rfl
  · obtain ⟨a, ns, rfl, hs, hn, t1, t2, q⟩ := h
    have hu64 : (A.deeper (envOfC "law" (defScope s_law) s.heap.objs.size f cdv)).units + 64 < cLine := by
      have := hr.un
      omega
    refine ⟨_, (pss_cons (ps_set (i := 1) sc_law.nd rfl (Or.inl rfl) (pe_op op_add pe_int (pe_op op_mod (pe_callC C_law_cell (hr.mono (by omega)) (by rfl) (pa_cons (pv 0) (pa_cons pe_int pa_nil))) pe_int)))
      (pss_cons (ps_set (i := 2) sc_law.nd rfl (Or.inr rfl) (pe_callC C_law_weights (hr.mono (by omega)) (by rfl) (pa_cons (pv 0) (pa_cons pe_int (pa_cons (pv 1) pa_nil)))))
      (pss_cons (ps_set (i := 3) sc_law.nd rfl (Or.inl rfl) (pe_callB (call_min2 rfl) (by rfl) B.min (by decide +kernel) (pa_cons pe_int (pa_cons (pe_op op_add (pe_callC C_law_least_limit (hr.mono (by omega)) (by rfl) (pa_cons (pv 1) pa_nil)) (pe_op op_mod (pe_callC C_law_cell (hr.mono (by omega)) (by rfl) (pa_cons (pv 0) (pa_cons pe_int pa_nil))) pe_int)) pa_nil))))
      (pss_cons (ps_set (i := 4) sc_law.nd rfl (Or.inl rfl) (pe_callC C_law_cell (hr.mono (by omega)) (by rfl) (pa_cons (pv 0) (pa_cons pe_int pa_nil))))
      (pss_cons (ps_set (i := 5) sc_law.nd rfl (Or.inl rfl) (pe_tup (pa_cons (pe_op op_mod (pv 4) (pe_op op_add (pv 3) pe_int)) (pa_cons (pe_op op_mod (pe_op op_fdiv (pv 4) pe_int) (pv 1)) (pa_cons (pe_op op_add pe_int (pe_op op_mod (pe_op op_fdiv (pv 4) pe_int) (pv 1))) pa_nil)))))
      (pss_cons (ps_set (i := 6) sc_law.nd rfl (Or.inl rfl) (pe_callTy call_list_of (by rfl) B.list (by decide +kernel) (pa_cons (pv 2) pa_nil)))
      (pss_cons (ps_if (PW.pt (pw_or (pt_cmpR (op_neD hu64) (pe_callC C_ranks (hr.mono (by omega)) (by rfl) (pa_cons (pv 6) pa_nil)) (pe_callC C_law_ranks (hr.mono (by omega)) (by rfl) (pa_cons (pv 2) pa_nil)) (nomark _)) (pw_or1 (pt_cmpR (op_neD hu64) (pe_callC C_choices (hr.mono (by omega)) (by rfl) (pa_cons (pv 6) (pa_cons (pv 3) (pa_cons (pv 5) pa_nil)))) (pe_callC C_law_choices (hr.mono (by omega)) (by rfl) (pa_cons (pv 2) (pa_cons (pv 3) (pa_cons (pv 5) pa_nil)))) (nomark _))))) (pss_one (ps_ret pe_bl)) pss_nil)
      (pss_cons (ps_if (pt_cmpR (op_neD hu64) (pe_callC C_choices (hr.mono (by omega)) (by rfl) (pa_cons (pv 6) (pa_cons (pv 3) (pa_cons (pe_tup (pa_cons pe_int (pa_cons pe_int (pa_cons pe_int pa_nil)))) pa_nil)))) (pe_callC C_law_choices (hr.mono (by omega)) (by rfl) (pa_cons (pv 2) (pa_cons (pv 3) (pa_cons (pe_tup (pa_cons pe_int (pa_cons pe_int (pa_cons pe_int pa_nil)))) pa_nil)))) (nomark _)) (pss_one (ps_ret pe_bl)) pss_nil)
      (pss_cons (ps_set (i := 7) sc_law.nd rfl (Or.inr rfl) (pe_lc rfl sc_law.nd (pi_range1 (by rfl) B.range (pa_cons (pv 1) pa_nil)) (blkOk_by (own := [("k", 8)]) (N := ["script", "many", "weights", "limit", "cell", "stage", "given", "lengths", "k"]) (sc := defScope s_law) (by decide +kernel)) (fun _ _ _ _ _ => (pg_name (i := 8) sc_law.nd rfl (Or.inl rfl))) (fun _ _ _ _ _ => pts_nil) (fun _ _ _ _ _ => (pe_op op_mod (pe_callC C_law_cell (hr.mono (by omega)) (by rfl) (pa_cons (pv 0) (pa_cons (pe_op op_add pe_int (pv 8)) pa_nil))) pe_int))))
      (pss_one (ps_ret (pe_and (pe_cmpR op_eq (pe_callC C_cost (hr.mono (by omega)) (by rfl) (pa_cons (pv 6) (pa_cons (pv 7) pa_nil))) (pe_callB (cr_sum rfl) (by rfl) B.sum (by decide +kernel) (pa_cons (pe_lc rfl sc_law.nd (pi_range1 (by rfl) B.range (pa_cons (pv 1) pa_nil)) (blkOk_by (own := [("k", 8)]) (N := ["script", "many", "weights", "limit", "cell", "stage", "given", "lengths", "k"]) (sc := defScope s_law) (by decide +kernel)) (fun _ _ _ _ _ => (pg_name (i := 8) sc_law.nd rfl (Or.inl rfl))) (fun _ _ _ _ _ => pts_nil) (fun _ _ _ _ _ => (pe_op op_mul (pe_ix (ix_listK (K := K) rfl) (pv 2) (pv 8) (fun _ _ => rfl)) (pe_ix (ix_listK (K := K) rfl) (pv 7) (pv 8) (fun _ _ => rfl))))) pa_nil)) (nomark _)) (pe_one (pe_cmpR (op_eqD hu64) (pv 6) (pv 2) (nomark _))))))))))))))), ?_⟩
    -- many
    obtain ⟨n, hn2, hn16, en⟩ : ∃ n : Nat, 2 ≤ n ∧ n ≤ 16 ∧ 2 + cellOf ns 0 % 15 = (n : Int) := ⟨(2 + cellOf ns 0 % 15).toNat, by omega, by omega, by omega⟩
    refine q_asg (v := .int (n : Int)) (ev_is (ev_add ev_c (ev_op (ev_call (ea2 (ev_var rfl) ev_c) (spv_cell (j := 0) hs rfl)) ev_c (rv_mod (by decide)))) (by rw [en])) fun H1 e1 => ?_
    have hs1 := ex_l e1 hs
    -- weights
    refine q_asgL (el_call (ea3 (ev_var rfl) ev_c (ev_var rfl)) (sp_weights (f := 3) (n := n) hs1 (by omega) rfl rfl)) fun pw H2 hpw e2 h2 => ?_
    generalize hws : weightsL ns 3 n = ws at h2
    have hwl : ws.length = n := by rw [← hws, weightsL_len]
    have hwb : ∀ i, i < n → 0 ≤ ws.getD i 0 ∧ ws.getD i 0 ≤ 1000000 := fun i hi => by
      rw [← hws, weightsL_at hi]
      exact weightOf_bd _
    have hs2 := ex_l e2 hs1
    -- limit
    have hlim := (llimAt_le n 6).1
    have hlim2 := (llimAt_le n 6).2
    obtain ⟨L, hL1, hL16, eL⟩ : ∃ L : Int, 1 ≤ L ∧ L ≤ 16 ∧ (if ((llim n : Nat) : Int) + cellOf ns 1 % 5 < 16 then ((llim n : Nat) : Int) + cellOf ns 1 % 5 else 16) = L := ⟨_, by unfold llim; split <;> omega, by split <;> omega, rfl⟩
    refine q_asg (v := .int L) (ev_is (ev_min ev_c (ev_add (ev_call (ea1 (ev_var rfl)) sp_lim) (ev_op (ev_call (ea2 (ev_var rfl) ev_c) (spv_cell (j := 1) hs2 rfl)) ev_c (rv_mod (by decide))))) (by rw [eL])) fun H3 e3 => ?_
    have hs3 := ex_l e3 hs2
    refine q_asg (ev_call (ea2 (ev_var rfl) ev_c) (spv_cell (j := 2) hs3 rfl)) fun H4 e4 => ?_
    generalize cellOf ns 2 = z
    refine q_asgU (eu_tup (ea3 (ev_op (ev_var rfl) (ev_add (ev_var rfl) ev_c) (rv_mod (by omega))) (ev_op (ev_op (ev_var rfl) ev_c (rv_div (by decide) (by decide))) (ev_var rfl) (rv_mod (by omega)))
      (ev_add ev_c (ev_op (ev_op (ev_var rfl) ev_c (rv_div (by decide) (by decide))) (ev_var rfl) (rv_mod (by omega))))) (by show 3 ≤ 100000; decide)) fun pt H5 hpt e5 h5 => ?_
    have hd1 := Int.emod_nonneg z (show L + 1 ≠ 0 by omega)
    have hd2 := Int.emod_lt_of_pos z (show 0 < L + 1 by omega)
    have hm1 := Int.emod_nonneg (z / 17) (show (n : Int) ≠ 0 by omega)
    have hm2 := Int.emod_lt_of_pos (z / 17) (show 0 < (n : Int) by omega)
    have hk1 := Int.emod_nonneg (z / 272) (show (n : Int) ≠ 0 by omega)
    have hk2 := Int.emod_lt_of_pos (z / 272) (show 0 < (n : Int) by omega)
    generalize z % (L + 1) = depth at *
    generalize z / 17 % (n : Int) = m at *
    generalize z / 272 % (n : Int) = k1 at *
    have hsl : ((sumsL ws).length : Int) - 1 = (n : Int) := by rw [sumsL_len, hwl]; omega
    have hst : StOk (sumsL ws) L depth m (1 + k1) := ⟨hL1, ⟨hd1, by omega⟩, ⟨hm1, by rw [hsl]; exact hm2⟩, by omega⟩
    have hst0 : StOk (sumsL ws) L 0 0 1 := ⟨hL1, ⟨by omega, by omega⟩, ⟨by omega, by rw [hsl]; omega⟩, by omega⟩
    have hw5 : SqL K H5 pw (ws.map V.int) := sq_of (((e3.trans e4).trans e5) pw _ h2)
    -- given
    refine q_asgL (el_listOf (ev_var rfl) hw5) fun pg H6 hpg e6 h6 => ?_
    have hw6 := ex_l e6 hw5
    have hg6 : SqL K H6 pg (ws.map V.int) := sq_of h6
    have ht6 : SqT K H6 pt [.int depth, .int m, .int (1 + k1)] := st_of (e6 pt _ h5)
    have e06 : Ex H H6 := ((((e1.trans e2).trans e3).trans e4).trans e5).trans e6
    have hw64 : ws.length ≤ 64 := by omega
    have hnR : PyData.eqv (.list (((rankL ws).map fun (k : Nat) => (k : Int)).map PyData.int)) (.list (((rankL ws).map fun (k : Nat) => (k : Int)).map PyData.int)) = true := eqv_ints _
    refine q_when (b := false) (et_is (et_or (et_test (ev_neD (d := .list (((rankL ws).map fun (k : Nat) => (k : Int)).map PyData.int)) (d2 := .list (((rankL ws).map fun (k : Nat) => (k : Int)).map PyData.int))
      (ed_listI (by rw [← nats_ints]; exact el_call (ea1 (ev_var rfl)) (sp_ranksP hg6 hw64 (e06 P1 _ t1)))) (ed_listI (by rw [← nats_ints]; exact el_call (ea1 (ev_var rfl)) (sp_ranks hw6 hw64))) (shaped_ints _) (shaped_ints _)))
      fun _ => et_test (ev_neD (ed_call (ea3 (ev_var rfl) (ev_var rfl) (ev_var rfl)) (sp_choices hg6 ht6 hst hw64 (by omega))) (ed_call (ea3 (ev_var rfl) (ev_var rfl) (ev_var rfl)) (sp_choices hw6 ht6 hst hw64 (by omega))) (chs_shaped _) (chs_shaped _))) ?_) (fun hb => by cases hb) fun _ H7 e7 => ?_
    · rw [hnR, ch_same hst, chs_eqv]
      rfl
    have hw7 := ex_l e7 hw6
    have hg7 := ex_l e7 hg6
    refine q_when (b := false) (et_is (et_test (ev_neD
      (ed_call3U (ev_var rfl) (ev_var rfl) (eu_tup (ea3 ev_c ev_c ev_c) (by show 3 ≤ 100000; decide)) fun p H1 e1 h1 => sp_choices (ex_l e1 hg7) (st_of h1) hst0 hw64 (by omega))
      (ed_call3U (ev_var rfl) (ev_var rfl) (eu_tup (ea3 ev_c ev_c ev_c) (by show 3 ≤ 100000; decide)) fun p H1 e1 h1 => sp_choices (ex_l e1 hw7) (st_of h1) hst0 hw64 (by omega)) (chs_shaped _) (chs_shaped _))) ?_) (fun hb => by cases hb) fun _ H8 e8 => ?_
    · rw [ch_same hst0, chs_eqv]
      rfl
    have e08 : Ex H H8 := (e06.trans e7).trans e8
    have hs8 := ex_l e08 hs
    -- lengths
    refine q_asgL (el_lcR1 (fun _ => true) (fun k => V.int (cellOf ns (20 + k) % 21)) (ea1 (ev_var rfl)) ⟨by omega, by omega⟩ (fun x => rfl) (fun i H1 e hi => et_yes)
      (fun i H1 e hi _ => ev_op (ev_call (ea2 (ev_var rfl) (ev_add ev_c (ev_var rfl))) (spv_cell (j := 20 + i) (ex_l e hs8) (by omega))) ev_c (rv_mod (by decide)))) fun pl H9 hpl e9 h9 => ?_
    rw [given_all] at h9
    have hln : (List.range ((n : Int)).toNat).map (fun k => cellOf ns (20 + k) % 21) = lensL ns n := by
      rw [Int.toNat_natCast] <;> rfl
    rw [hln] at h9
    have e09 := e08.trans e9
    have hw9 := ex_l (e8.trans e9) hw7
    have hg9 := ex_l (e8.trans e9) hg7
    have hl9 : SqL K H9 pl ((lensL ns n).map V.int) := sq_of h9
    have hcb : ∀ i, i < n → -(2 ^ 62) < ws.getD i 0 ∧ ws.getD i 0 < 2 ^ 62 ∧ -(2 ^ 40) ≤ costF ws (lensL ns n) i ∧ costF ws (lensL ns n) i ≤ 2 ^ 40 := fun i hi => by
      obtain ⟨b1, b2⟩ := hwb i hi
      have b3 : 0 ≤ (lensL ns n).getD i 0 ∧ (lensL ns n).getD i 0 ≤ 20 := by rw [lensL_at hi]; omega
      unfold costF
      have b4 := Int.mul_nonneg b1 b3.1
      have b5 : ws.getD i 0 * (lensL ns n).getD i 0 ≤ 1000000 * 20 := Int.mul_le_mul b2 b3.2 b3.1 (by omega)
      exact ⟨by omega, by omega, by omega, by omega⟩
    refine s_ret (v := .bl true) (ev_is (ev_andV (ev_is (ev_eq (i := sumF n (costF ws (lensL ns n))) (j := sumF n (costF ws (lensL ns n))) (ev_call (ea2 (ev_var rfl) (ev_var rfl)) fun H1 e1 Q q E => ?_) ?_) (congrArg V.bl (decide_eq_true rfl)))
      fun _ => ev_eqD (ed_at (ev_var rfl) (dp_listI hg9)) (ed_at (ev_var rfl) (dp_listI hw9)) (shaped_ints _) (shaped_ints _)) (by rw [eqv_ints]; rfl)) fun H10 e10 => q H10 (e09.trans e10)
    · refine ⟨pg, pl, ws, lensL ns n, rfl, ex_l e1 hg9, ex_l e1 hl9, by rw [hwl, lensL_len], by omega, e1 P2 _ (e09 P2 _ t2), fun i hi => hcb i (by omega), fun H2 e2 => ?_⟩
      rw [hwl]
      exact q H2 e2
    · refine ev_sumL (ns := (List.range n).map (costF ws (lensL ns n))) ?_
      have hgv : ((List.range n).map (costF ws (lensL ns n))).map V.int = given ((n : Int)).toNat (fun _ => true) (fun k => V.int (costF ws (lensL ns n) k)) := by
        rw [given_all, Int.toNat_natCast]
      rw [hgv]
      refine el_lcR1 (fun _ => true) _ (ea1 (ev_var rfl)) ⟨by omega, by omega⟩ (fun x => rfl) (fun i H1 e hi => et_yes) (fun i H1 e hi _ => ?_)
      have hi' : i < n := by omega
      exact ev_op (ev_op (ev_var rfl) (ev_var rfl) (rv_ixL (ex_l e hw9) (atI_at rfl (by omega)))) (ev_op (ev_var rfl) (ev_var rfl) (rv_ixL (ex_l e hl9) (atI_at rfl (by rw [lensL_len]; exact hi')))) (rv_mul (by have := hcb i hi'; omega))
end
end K03
set_option Elab.async false
set_option linter.all false
set_option maxRecDepth 100000
set_option maxHeartbeats 4000000
namespace K03
open PySem PySem.Spec PyProof.Rows L2 GX KC Evl M03
theorem top_of {l : PySem.W.OpenLaw} {q : Program} {w : World} {K : PySem.W.Frag} {h : Heap} {mg : Str → Option Value} {fa : Addr} (X : K.In h) (G : h.Ns mainGlobals mg) (R : Rec0 q mg h) (hfa : mg "law" = some (.ref fa)) (r0 : ((recsOf q).any fun e => e.name == "ranks") = true)  (r1 : ((recsOf q).any fun e => e.name == "cost") = true)
    {f0 : Addr} {od0 an0 : Option Addr} {sl0 : Array (Option Value)} {oc0 kV0 dc0 pm0 ct0 : Value} {g0 P0 : Addr} {vc0 : Value} {vd0 : Option Addr} {us0 : Array Value} {vl0 : Array (Option Value)}
    (a0 : PySem.W.nsIn K mainGlobals "ranks" = some (some (.ref f0))) (l0 : K.lookup f0 = some ⟨oc0, od0, .func (PySem.W.fnOf "ranks" "ranks" (defArgs s_ranks) (defBody s_ranks) (defScope s_ranks) .none kV0 dc0 pm0 an0 (.ref g0) ct0), sl0⟩) (c0 : PySem.W.codeIn K (.ref g0) "ranks" = true) (k0 : PySem.W.keepIn K (.ref f0) = true)
    (v0 : K.lookup g0 = some ⟨vc0, vd0, .fields us0, vl0⟩) (p0 : us0[11]? = some (.ref P0)) (t0 : PySem.W.codeHdIn K g0 P0 = true) (n0 : K.lookup P0 = none)
    {f1 : Addr} {od1 an1 : Option Addr} {sl1 : Array (Option Value)} {oc1 kV1 dc1 pm1 ct1 : Value} {g1 P1 : Addr} {vc1 : Value} {vd1 : Option Addr} {us1 : Array Value} {vl1 : Array (Option Value)}
    (a1 : PySem.W.nsIn K mainGlobals "cost" = some (some (.ref f1))) (l1 : K.lookup f1 = some ⟨oc1, od1, .func (PySem.W.fnOf "cost" "cost" (defArgs s_cost) (defBody s_cost) (defScope s_cost) .none kV1 dc1 pm1 an1 (.ref g1) ct1), sl1⟩) (c1 : PySem.W.codeIn K (.ref g1) "cost" = true) (k1 : PySem.W.keepIn K (.ref f1) = true)
    (v1 : K.lookup g1 = some ⟨vc1, vd1, .fields us1, vl1⟩) (p1 : us1[11]? = some (.ref P1)) (t1 : PySem.W.codeHdIn K g1 P1 = true) (n1 : K.lookup P1 = none)
    {f2 : Addr} {od2 an2 : Option Addr} {sl2 : Array (Option Value)} {oc2 kV2 dc2 pm2 ct2 : Value} {cd2 : Value}
    (a2 : PySem.W.nsIn K mainGlobals "rests" = some (some (.ref f2))) (l2 : K.lookup f2 = some ⟨oc2, od2, .func (PySem.W.fnOf "rests" "rests" (defArgs s_rests) (defBody s_rests) (defScope s_rests) .none kV2 dc2 pm2 an2 cd2 ct2), sl2⟩) (c2 : PySem.W.codeIn K cd2 "rests" = true) (k2 : PySem.W.keepIn K (.ref f2) = true)
    {f3 : Addr} {od3 an3 : Option Addr} {sl3 : Array (Option Value)} {oc3 kV3 dc3 pm3 ct3 : Value} {cd3 : Value}
    (a3 : PySem.W.nsIn K mainGlobals "word_counts" = some (some (.ref f3))) (l3 : K.lookup f3 = some ⟨oc3, od3, .func (PySem.W.fnOf "word_counts" "word_counts" (defArgs s_word_counts) (defBody s_word_counts) (defScope s_word_counts) .none kV3 dc3 pm3 an3 cd3 ct3), sl3⟩) (c3 : PySem.W.codeIn K cd3 "word_counts" = true) (k3 : PySem.W.keepIn K (.ref f3) = true)
    {f4 : Addr} {od4 an4 : Option Addr} {sl4 : Array (Option Value)} {oc4 kV4 dc4 pm4 ct4 : Value} {cd4 : Value}
    (a4 : PySem.W.nsIn K mainGlobals "stage_choices" = some (some (.ref f4))) (l4 : K.lookup f4 = some ⟨oc4, od4, .func (PySem.W.fnOf "stage_choices" "stage_choices" (defArgs s_stage_choices) (defBody s_stage_choices) (defScope s_stage_choices) .none kV4 dc4 pm4 an4 cd4 ct4), sl4⟩) (c4 : PySem.W.codeIn K cd4 "stage_choices" = true) (k4 : PySem.W.keepIn K (.ref f4) = true)
    {f5 : Addr} {od5 an5 : Option Addr} {sl5 : Array (Option Value)} {oc5 kV5 dc5 pm5 ct5 : Value} {cd5 : Value}
    (a5 : PySem.W.nsIn K mainGlobals "choices" = some (some (.ref f5))) (l5 : K.lookup f5 = some ⟨oc5, od5, .func (PySem.W.fnOf "choices" "choices" (defArgs s_choices) (defBody s_choices) (defScope s_choices) .none kV5 dc5 pm5 an5 cd5 ct5), sl5⟩) (c5 : PySem.W.codeIn K cd5 "choices" = true) (k5 : PySem.W.keepIn K (.ref f5) = true)
    {f6 : Addr} {od6 an6 : Option Addr} {sl6 : Array (Option Value)} {oc6 kV6 dc6 pm6 ct6 : Value} {cd6 : Value}
    (a6 : PySem.W.nsIn K mainGlobals "_law_cell" = some (some (.ref f6))) (l6 : K.lookup f6 = some ⟨oc6, od6, .func (PySem.W.fnOf "_law_cell" "_law_cell" (defArgs s_law_cell) (defBody s_law_cell) (defScope s_law_cell) .none kV6 dc6 pm6 an6 cd6 ct6), sl6⟩) (c6 : PySem.W.codeIn K cd6 "_law_cell" = true) (k6 : PySem.W.keepIn K (.ref f6) = true)
    {f7 : Addr} {od7 an7 : Option Addr} {sl7 : Array (Option Value)} {oc7 kV7 dc7 pm7 ct7 : Value} {cd7 : Value}
    (a7 : PySem.W.nsIn K mainGlobals "_law_weights" = some (some (.ref f7))) (l7 : K.lookup f7 = some ⟨oc7, od7, .func (PySem.W.fnOf "_law_weights" "_law_weights" (defArgs s_law_weights) (defBody s_law_weights) (defScope s_law_weights) .none kV7 dc7 pm7 an7 cd7 ct7), sl7⟩) (c7 : PySem.W.codeIn K cd7 "_law_weights" = true) (k7 : PySem.W.keepIn K (.ref f7) = true)
    {f8 : Addr} {od8 an8 : Option Addr} {sl8 : Array (Option Value)} {oc8 kV8 dc8 pm8 ct8 : Value} {cd8 : Value}
    (a8 : PySem.W.nsIn K mainGlobals "_law_ranks" = some (some (.ref f8))) (l8 : K.lookup f8 = some ⟨oc8, od8, .func (PySem.W.fnOf "_law_ranks" "_law_ranks" (defArgs s_law_ranks) (defBody s_law_ranks) (defScope s_law_ranks) .none kV8 dc8 pm8 an8 cd8 ct8), sl8⟩) (c8 : PySem.W.codeIn K cd8 "_law_ranks" = true) (k8 : PySem.W.keepIn K (.ref f8) = true)
    {f9 : Addr} {od9 an9 : Option Addr} {sl9 : Array (Option Value)} {oc9 kV9 dc9 pm9 ct9 : Value} {cd9 : Value}
    (a9 : PySem.W.nsIn K mainGlobals "_law_least_limit" = some (some (.ref f9))) (l9 : K.lookup f9 = some ⟨oc9, od9, .func (PySem.W.fnOf "_law_least_limit" "_law_least_limit" (defArgs s_law_least_limit) (defBody s_law_least_limit) (defScope s_law_least_limit) .none kV9 dc9 pm9 an9 cd9 ct9), sl9⟩) (c9 : PySem.W.codeIn K cd9 "_law_least_limit" = true) (k9 : PySem.W.keepIn K (.ref f9) = true)
    {f10 : Addr} {od10 an10 : Option Addr} {sl10 : Array (Option Value)} {oc10 kV10 dc10 pm10 ct10 : Value} {cd10 : Value}
    (a10 : PySem.W.nsIn K mainGlobals "_law_sums" = some (some (.ref f10))) (l10 : K.lookup f10 = some ⟨oc10, od10, .func (PySem.W.fnOf "_law_sums" "_law_sums" (defArgs s_law_sums) (defBody s_law_sums) (defScope s_law_sums) .none kV10 dc10 pm10 an10 cd10 ct10), sl10⟩) (c10 : PySem.W.codeIn K cd10 "_law_sums" = true) (k10 : PySem.W.keepIn K (.ref f10) = true)
    {f11 : Addr} {od11 an11 : Option Addr} {sl11 : Array (Option Value)} {oc11 kV11 dc11 pm11 ct11 : Value} {cd11 : Value}
    (a11 : PySem.W.nsIn K mainGlobals "_law_choices_by" = some (some (.ref f11))) (l11 : K.lookup f11 = some ⟨oc11, od11, .func (PySem.W.fnOf "_law_choices_by" "_law_choices_by" (defArgs s_law_choices_by) (defBody s_law_choices_by) (defScope s_law_choices_by) .none kV11 dc11 pm11 an11 cd11 ct11), sl11⟩) (c11 : PySem.W.codeIn K cd11 "_law_choices_by" = true) (k11 : PySem.W.keepIn K (.ref f11) = true)
    {f12 : Addr} {od12 an12 : Option Addr} {sl12 : Array (Option Value)} {oc12 kV12 dc12 pm12 ct12 : Value} {cd12 : Value}
    (a12 : PySem.W.nsIn K mainGlobals "_law_choices" = some (some (.ref f12))) (l12 : K.lookup f12 = some ⟨oc12, od12, .func (PySem.W.fnOf "_law_choices" "_law_choices" (defArgs s_law_choices) (defBody s_law_choices) (defScope s_law_choices) .none kV12 dc12 pm12 an12 cd12 ct12), sl12⟩) (c12 : PySem.W.codeIn K cd12 "_law_choices" = true) (k12 : PySem.W.keepIn K (.ref f12) = true)
    {f13 : Addr} {od13 an13 : Option Addr} {sl13 : Array (Option Value)} {oc13 kV13 dc13 pm13 ct13 : Value} {cd13 : Value}
    (a13 : PySem.W.nsIn K mainGlobals "law" = some (some (.ref f13))) (l13 : K.lookup f13 = some ⟨oc13, od13, .func (PySem.W.fnOf "law" "law" (defArgs s_law) (defBody s_law) (defScope s_law) .none kV13 dc13 pm13 an13 cd13 ct13), sl13⟩) (c13 : PySem.W.codeIn K cd13 "law" = true) (k13 : PySem.W.keepIn K (.ref f13) = true)
    (z_len : PySem.W.nsIn K mainGlobals "len" = some none)
    (z_int : PySem.W.nsIn K mainGlobals "int" = some none)
    (z_min : PySem.W.nsIn K mainGlobals "min" = some none)
    (z_max : PySem.W.nsIn K mainGlobals "max" = some none)
    (z_list : PySem.W.nsIn K mainGlobals "list" = some none)
    (z_sorted : PySem.W.nsIn K mainGlobals "sorted" = some none)
    (z_sum : PySem.W.nsIn K mainGlobals "sum" = some none)
    (z_range : PySem.W.nsIn K mainGlobals "range" = some none)
    (z_enumerate : PySem.W.nsIn K mainGlobals "enumerate" = some none)
    (z_zip : PySem.W.nsIn K mainGlobals "zip" = some none)
    (z_any : PySem.W.nsIn K mainGlobals "any" = some none)
    (z_isinstance : PySem.W.nsIn K mainGlobals "isinstance" = some none)
    (z_bool : PySem.W.nsIn K mainGlobals "bool" = some none)
    (z_reversed : PySem.W.nsIn K mainGlobals "reversed" = some none)
    : LawX l w K CX0 8 63 "script" mg fa h := by
  have e := hfa.symm.trans (PySem.W.mg_of X G a13)
  cases e
  have hd0 : PySem.W.CodeHd h g0 P0 := PySem.W.codeHd_of_K X t0
  have em0 : h.get? P0 = some tabO := tab_emp R X r0 (PySem.W.mg_of X G a0) l0 rfl hd0
  have hd1 : PySem.W.CodeHd h g1 P1 := PySem.W.codeHd_of_K X t1
  have em1 : h.get? P1 = some tabO := tab_emp R X r1 (PySem.W.mg_of X G a1) l1 rfl hd1
  have T1 : ∀ p ∈ ([(g0, P0), (g1, P1)] : List (Addr × Addr)), h.get? p.2 = some tabO := by
    intro p hp
    simp only [List.mem_cons, List.not_mem_nil, or_false] at hp
    rcases hp with rfl | rfl
    · exact em0
    · exact em1
  have T2 : ∀ p ∈ ([(g0, P0), (g1, P1)] : List (Addr × Addr)), K.lookup p.2 = none := by
    intro p hp
    simp only [List.mem_cons, List.not_mem_nil, or_false] at hp
    rcases hp with rfl | rfl
    · exact n0
    · exact n1
  have T3 : ∀ p ∈ ([(g0, P0), (g1, P1)] : List (Addr × Addr)), PySem.W.CodeHd h p.1 p.2 := by
    intro p hp
    simp only [List.mem_cons, List.not_mem_nil, or_false] at hp
    rcases hp with rfl | rfl
    · exact hd0
    · exact hd1
  refine ⟨PySem.W.fnOf "law" "law" (defArgs s_law) (defBody s_law) (defScope s_law) .none kV13 dc13 pm13 an13 cd13 ct13, [(g0, P0), (g1, P1)], spLaw K P0 P1, ⟨T1, T2, T3⟩, fun s v => .of_eq rfl, fun H a ns hl hb hT hS => ⟨a, ns, rfl, hS, hl, hT _ (List.mem_cons_self), hT _ (List.mem_cons_of_mem _ List.mem_cons_self), fun H2 e2 => ⟨rfl, fun p hp => e2 _ _ (hT p hp)⟩⟩, fun base kb gb TB => ?_⟩
  have B : Bs mg := ⟨PySem.W.mg_none_of X G z_len, PySem.W.mg_none_of X G z_int, PySem.W.mg_none_of X G z_min, PySem.W.mg_none_of X G z_max, PySem.W.mg_none_of X G z_list, PySem.W.mg_none_of X G z_sorted, PySem.W.mg_none_of X G z_sum, PySem.W.mg_none_of X G z_range, PySem.W.mg_none_of X G z_enumerate, PySem.W.mg_none_of X G z_zip, PySem.W.mg_none_of X G z_any, PySem.W.mg_none_of X G z_isinstance, PySem.W.mg_none_of X G z_bool, PySem.W.mg_none_of X G z_reversed⟩
  have TB0 : GxR.TabB base mg g0 P0 := TB (g0, P0) (by simp)
  have TB1 : GxR.TabB base mg g1 P1 := TB (g1, P1) (by simp)
  have F0 : FunT K "ranks" "ranks" s_ranks f0 _ g0 := ⟨⟨oc0, od0, kV0, dc0, pm0, an0, ct0, sl0, rfl, l0, c0⟩, k0⟩
  have C_ranks := cal_of (P := l.prog) (w := w) (base := base) F0.fn (PySem.W.mg_of X G a0) (F0.fn.binds (ps := ["weights"]) fun _ _ _ _ _ _ us hl => match us, hl with | [_], _ => rfl) (ok_ranks (k := 0) F0 TB0 B)
  have F1 : FunT K "cost" "cost" s_cost f1 _ g1 := ⟨⟨oc1, od1, kV1, dc1, pm1, an1, ct1, sl1, rfl, l1, c1⟩, k1⟩
  have C_cost := cal_of (P := l.prog) (w := w) (base := base) F1.fn (PySem.W.mg_of X G a1) (F1.fn.binds (ps := ["weights", "lengths"]) fun _ _ _ _ _ _ us hl => match us, hl with | [_, _], _ => rfl) (ok_cost (k := 0) F1 TB1 B)
  have F2 := fun_mk (st := s_rests) l2 c2 k2
  have C_rests := cal_of (P := l.prog) (w := w) (base := base) F2 (PySem.W.mg_of X G a2) (F2.binds (ps := ["weights"]) fun _ _ _ _ _ _ us hl => match us, hl with | [_], _ => rfl) (ok_rests (k := 0) F2 B)
  have F3 := fun_mk (st := s_word_counts) l3 c3 k3
  have C_word_counts := cal_of (P := l.prog) (w := w) (base := base) F3 (PySem.W.mg_of X G a3) (F3.binds (ps := ["limit", "depth", "free", "left"]) fun _ _ _ _ _ _ us hl => match us, hl with | [_, _, _, _], _ => rfl) (ok_word_counts (k := 0) F3 B)
  have F4 := fun_mk (st := s_stage_choices) l4 c4 k4
  have C_stage_choices := cal_of (P := l.prog) (w := w) (base := base) F4 (PySem.W.mg_of X G a4) (F4.binds (ps := ["sums", "limit", "stage"]) fun _ _ _ _ _ _ us hl => match us, hl with | [_, _, _], _ => rfl) (ok_stage_choices (k := 0) F4 B C_word_counts)
  have F5 := fun_mk (st := s_choices) l5 c5 k5
  have C_choices := cal_of (P := l.prog) (w := w) (base := base) F5 (PySem.W.mg_of X G a5) (F5.binds (ps := ["weights", "limit", "stage"]) fun _ _ _ _ _ _ us hl => match us, hl with | [_, _, _], _ => rfl) (ok_choices (k := 0) F5 B C_rests C_stage_choices)
  have F6 := fun_mk (st := s_law_cell) l6 c6 k6
  have C_law_cell := cal_of (P := l.prog) (w := w) (base := base) F6 (PySem.W.mg_of X G a6) (F6.binds (ps := ["script", "k"]) fun _ _ _ _ _ _ us hl => match us, hl with | [_, _], _ => rfl) (ok_cell (k := 0) F6 B)
  have F7 := fun_mk (st := s_law_weights) l7 c7 k7
  have C_law_weights := cal_of (P := l.prog) (w := w) (base := base) F7 (PySem.W.mg_of X G a7) (F7.binds (ps := ["script", "first", "many"]) fun _ _ _ _ _ _ us hl => match us, hl with | [_, _, _], _ => rfl) (ok_weights (k := 0) F7 B C_law_cell)
  have F8 := fun_mk (st := s_law_ranks) l8 c8 k8
  have C_law_ranks := cal_of (P := l.prog) (w := w) (base := base) F8 (PySem.W.mg_of X G a8) (F8.binds (ps := ["weights"]) fun _ _ _ _ _ _ us hl => match us, hl with | [_], _ => rfl) (ok_law_ranks (k := 0) F8 B)
  have F9 := fun_mk (st := s_law_least_limit) l9 c9 k9
  have C_law_least_limit := cal_of (P := l.prog) (w := w) (base := base) F9 (PySem.W.mg_of X G a9) (F9.binds (ps := ["many"]) fun _ _ _ _ _ _ us hl => match us, hl with | [_], _ => rfl) (ok_law_least_limit (k := 0) F9 B)
  have F10 := fun_mk (st := s_law_sums) l10 c10 k10
  have C_law_sums := cal_of (P := l.prog) (w := w) (base := base) F10 (PySem.W.mg_of X G a10) (F10.binds (ps := ["weights"]) fun _ _ _ _ _ _ us hl => match us, hl with | [_], _ => rfl) (ok_law_sums (k := 0) F10 B C_law_ranks)
  have F11 := fun_mk (st := s_law_choices_by) l11 c11 k11
  have C_law_choices_by := cal_of (P := l.prog) (w := w) (base := base) F11 (PySem.W.mg_of X G a11) (F11.binds (ps := ["sums", "limit", "stage"]) fun _ _ _ _ _ _ us hl => match us, hl with | [_, _, _], _ => rfl) (ok_law_choices_by (k := 0) F11 B)
  have F12 := fun_mk (st := s_law_choices) l12 c12 k12
  have C_law_choices := cal_of (P := l.prog) (w := w) (base := base) F12 (PySem.W.mg_of X G a12) (F12.binds (ps := ["weights", "limit", "stage"]) fun _ _ _ _ _ _ us hl => match us, hl with | [_, _, _], _ => rfl) (ok_law_choices (k := 0) F12 B C_law_sums C_law_choices_by)
  have F13 := fun_mk (st := s_law) l13 c13 k13
  exact ok_law (k := 0) F13 B C_law_cell C_law_weights C_law_least_limit C_ranks C_law_ranks C_choices C_law_choices C_cost
end K03
open PySem PySem.W PyProof.Rows
set_option maxHeartbeats 0 in
theorem PySem.Challenge.cw_kraftroom_k03_choices_of_a_stage_holds : PySem.Challenge.rw_kraftroom_k03_choices_of_a_stage.Holds := by
  w_on; o_law; k_head; (case hw => w_witness2)
  k_fill
  refine KC.walk_X (l := PySem.Challenge.rw_kraftroom_k03_choices_of_a_stage) (n := 63) (k := 8) (x := "script") (CX := fun _ => L2.CX0) rfl (by decide) rfl ⟨rfl, by decide, by decide⟩ (fun w h Y => PySem.W.kIn_of Y) ?F (fun _ _ _ _ _ h => h)
  case F =>
    intro w mg fa h Y KX G hmg R
    refine' K03.top_of KX G R hmg ?r0 ?r1 ?a0 ?l0 ?c0 ?k0 ?v0 ?p0 ?t0 ?n0 ?a1 ?l1 ?c1 ?k1 ?v1 ?p1 ?t1 ?n1 ?a2 ?l2 ?c2 ?k2 ?a3 ?l3 ?c3 ?k3 ?a4 ?l4 ?c4 ?k4 ?a5 ?l5 ?c5 ?k5 ?a6 ?l6 ?c6 ?k6 ?a7 ?l7 ?c7 ?k7 ?a8 ?l8 ?c8 ?k8 ?a9 ?l9 ?c9 ?k9 ?a10 ?l10 ?c10 ?k10 ?a11 ?l11 ?c11 ?k11 ?a12 ?l12 ?c12 ?k12 ?a13 ?l13 ?c13 ?k13 ?z_len ?z_int ?z_min ?z_max ?z_list ?z_sorted ?z_sum ?z_range ?z_enumerate ?z_zip ?z_any ?z_isinstance ?z_bool ?z_reversed
    (case r0 => rfl)
    (case r1 => rfl)
    (case a0 => k_is); (case l0 => k_is); (case c0 => k_is); (case k0 => k_is); (case v0 => k_is); (case p0 => rfl); (case t0 => rfl); (case n0 => rfl); (case a1 => k_is); (case l1 => k_is); (case c1 => k_is); (case k1 => k_is); (case v1 => k_is); (case p1 => rfl); (case t1 => rfl); (case n1 => rfl); (case a2 => k_is); (case l2 => k_is); (case c2 => k_is); (case k2 => k_is); (case a3 => k_is); (case l3 => k_is); (case c3 => k_is); (case k3 => k_is); (case a4 => k_is); (case l4 => k_is); (case c4 => k_is); (case k4 => k_is); (case a5 => k_is); (case l5 => k_is); (case c5 => k_is); (case k5 => k_is); (case a6 => k_is); (case l6 => k_is); (case c6 => k_is); (case k6 => k_is); (case a7 => k_is); (case l7 => k_is); (case c7 => k_is); (case k7 => k_is); (case a8 => k_is); (case l8 => k_is); (case c8 => k_is); (case k8 => k_is); (case a9 => k_is); (case l9 => k_is); (case c9 => k_is); (case k9 => k_is); (case a10 => k_is); (case l10 => k_is); (case c10 => k_is); (case k10 => k_is); (case a11 => k_is); (case l11 => k_is); (case c11 => k_is); (case k11 => k_is); (case a12 => k_is); (case l12 => k_is); (case c12 => k_is); (case k12 => k_is); (case a13 => k_is); (case l13 => k_is); (case c13 => k_is); (case k13 => k_is); (case z_len => k_is); (case z_int => k_is); (case z_min => k_is); (case z_max => k_is); (case z_list => k_is); (case z_sorted => k_is); (case z_sum => k_is); (case z_range => k_is); (case z_enumerate => k_is); (case z_zip => k_is); (case z_any => k_is); (case z_isinstance => k_is); (case z_bool => k_is); (case z_reversed => k_is)
