import PyProof.Rows.All
import Wide.All
import OpenK.AllK
import Wide.FinOn
import HandS.GenList
import HandS.AnyAll
import HandS.EndOwn
import HandS.SortInts
import HandS.Walk
import HandS.ForMost
import HandS.Style
import HandS.Conv
import HandS.Evl
import HandS.Wide
import HandS.Star
import HandS.IsInst
import KE.BitLaws
import HandS.More
import PySem.Challenge.RW_kraftroom_k01_words_of_a_code
import HandS.EndTab
set_option Elab.async false
set_option linter.all false
set_option maxRecDepth 100000
set_option maxHeartbeats 4000000
/-! Generator expressions over the layer: any target, tests, element; consumed by sorted, sum, any, all. -/
namespace GX
open PySem PySem.Spec PyProof.Rows L2 GenW

abbrev Pins := List (Addr × Obj)
structure Sleeps (Ss : List Addr) (s s' : Shared) : Prop where
  os : s'.os = s.os
  bare : AllBare s'.gens
  keep : ∀ b o, b ∉ Ss → s.heap.get? b = some o → s'.heap.get? b = some o
structure PinsAt (Ss : List Addr) (pl : Pins) (h : Heap) : Prop where
  ad : pl.map (·.1) = Ss
  at_ : ∀ p ∈ pl, h.get? p.1 = some p.2 ∧ ∀ v, p.2.data ≠ .cell v
structure Cons where
  Ss : List Addr
  Gh : List V → Pins → Prop
  Th : List V → V → Hp → Prop
  Qe : List V → Hp → Prop

abbrev gcx (X : Cx) (sB : Shared) (HB : Hp) (N' : List Str) (cenv : Env) (fp : List Addr) (A : Around) (pn : Pins) : Cx :=
  { X with A := A, N := N', s_0 := sB, H_0 := HB, env := cenv, outer := X.stack, stack := cenv :: X.stack, ex := fp, fn := fun _ => false, calm := true, pn := pn, xe := fun _ _ => False }

/-- the generator expression's own scope, its names N', which of them are captured (cm: their slots outside) -/
structure CapOk (N N' : List Str) (cm : List (Option Nat)) (scope sc : Scope) : Prop where
  kind : scope.kind = .function
  co : scope.isCoroutine = false
  cell : ∀ y ∈ scope.names, y.2 ≠ .cell
  dot : scope.names.lookup (".0" : Str) = some NameKind.local
  free : ∀ y ∈ scope.names, y.2 = .free → sc.names.lookup y.1 = some .cell ∨ sc.names.lookup y.1 = some .free
  len : cm.length = N'.length
  cap : ((cm.zip N').all fun p => match p.1 with | some j => (N[j]? == some p.2) && (scope.names.lookup p.2 == some .free) | none => true) = true
def captS (cm : List (Option Nat)) (σ : L2.St) : L2.St := cm.map fun o => match o with
  | some j => (σ[j]?).join
  | none => none
theorem captS_some {cm : List (Option Nat)} {σ : L2.St} {i : Nat} {v : V} (h : (captS cm σ)[i]? = some (some v)) : ∃ j, cm[i]? = some (some j) ∧ σ[j]? = some (some v) := by
  unfold captS at h
  rw [List.getElem?_map] at h
  cases hc : cm[i]? with
  | none => rw [hc] at h; cases h
  | some o =>
    rw [hc] at h
    cases o with
    | none => cases h
    | some j =>
      refine ⟨j, rfl, ?_⟩
      have h' : (σ[j]?).join = some v := Option.some.inj h
      cases hs : σ[j]? with
      | none => rw [hs] at h'; cases h'
      | some w => rw [hs] at h'; exact congrArg some h'
theorem CapOk.capt {N N' : List Str} {cm : List (Option Nat)} {scope sc : Scope} (ok : CapOk N N' cm scope sc) {i j : Nat} {y : Str} (h1 : cm[i]? = some (some j)) (h2 : N'[i]? = some y) : N[j]? = some y ∧ scope.names.lookup y = some .free := by
  have h := List.all_eq_true.mp ok.cap (some j, y) (List.mem_of_getElem? (i := i) (by rw [List.getElem?_zip_eq_some]; exact ⟨h1, h2⟩))
  simp only [Bool.and_eq_true, beq_iff_eq] at h
  exact h

theorem inv_gens {G : Cx} {pl : Pins} {σ : L2.St} {H : Hp} {s : Shared} (I : Inv G pl σ H s) {g : Nat} {x : GenState} (hx : x.bare = true) : Inv G pl σ H (s.setGen g x) :=
  ⟨I.ok, I.os, allBare_setGen I.bare hx, I.base, I.loc, I.cell, I.free, I.freeC, I.pin, I.hok, I.len⟩

theorem woken {G : Cx} {Ss : List Addr} {pl pl' : Pins} {σ : L2.St} {H : Hp} {s s' : Shared} (hpn : ∀ p ∈ G.pn, p.1 ∉ Ss)
    (hap : ∀ b ∈ Ss, G.s_0.heap.objs.size ≤ b ∧ b ≠ G.env.locals ∧ ∀ x c, G.env.cells.lookup x = some c → c ≠ b) (hp : PinsAt Ss pl s.heap) (I : Inv G pl σ H s) (z : Sleeps Ss s s') (hp' : PinsAt Ss pl' s'.heap) :
    Inv G pl' σ H s' := by
  have fr : ∀ b ∈ Ss, H b = none ∧ b ≠ G.env.locals ∧ b ∉ G.fs := fun b hb => by
    rw [← hp.ad] at hb
    obtain ⟨p, hm, e⟩ := List.mem_map.mp hb
    obtain ⟨_, h2, h3, h4, _⟩ := I.pin p (List.mem_append_right _ hm)
    rw [← e]
    exact ⟨h2, h3, h4⟩
  have I0 : Inv G [] σ H s := I.pins_of fun p hp => absurd hp (by simp)
  have nt : ∀ b u, H b = some u → b ∉ Ss := fun b u q hb => by rw [(fr b hb).1] at q; cases q
  obtain ⟨z1, z2, z3⟩ := z
  obtain ⟨hh, g, d, t, o⟩ := s'
  have ho : o = s.os := z1
  subst ho
  have J : Inv G [] σ H { s with heap := hh, gens := g, drawn := d, toks := t } := by
    refine I0.step (g' := g) (t' := t) (d' := d) (ch := Ss) (fun b hb => ?_)
      (fun b ob _ _ hc q _ => z3 b ob hc q) (fun b ob _ _ hc q _ => ⟨ob.slots, z3 b ob hc q⟩) (fun _ _ _ _ n => n) (fun b ob hc q => ⟨ob, z3 b ob hc q⟩)
      (fun _ _ q => q) (fun _ _ _ q => q) (fun b ps q => ⟨#[], by rw [q]; simp⟩) (fun m hm => ?_) (fun b u q => ?_) z2
    · refine ⟨.inr (hap b hb).1, (hap b hb).2.1, (hap b hb).2.2, fun p hp => ?_⟩
      rcases List.mem_append.mp hp with hp | hp
      · exact fun e => hpn p hp (by rw [e]; exact hb)
      · cases hp
    · obtain ⟨ob, es, ep, ho, r⟩ := hm
      exact ⟨ob, es, ep, z3 _ ob (fun hm => (fr _ hm).2.1 rfl) ho, r⟩
    · refine (I0.hok b u q).stay (fun c v hc y => z3 c v ?_ y) (fun _ y => y) fun _ _ y => y
      rcases hc with y | y
      · rw [y]; exact nt b u q
      · exact nt c _ y
  refine J.pins_of fun p hp => ?_
  have hS : p.1 ∈ Ss := by rw [← hp'.ad]; exact List.mem_map.mpr ⟨p, hp, rfl⟩
  exact ⟨(hp'.at_ p hp).1, (fr _ hS).1, (fr _ hS).2.1, (fr _ hS).2.2, (hp'.at_ p hp).2⟩

def GY (G : Cx) (C : Cons) (σ0 : L2.St) : Protocol := fun n s₀ v s kap =>
  ∃ ys x pl H, n + 1 + ys.length = sizeLine ∧ RelV x v ∧ PinsAt C.Ss pl s.heap ∧ C.Gh ys pl ∧ Inv G pl σ0 H s ∧ C.Th ys x H ∧
    (∀ b ∈ C.Ss, s.heap.get? b = s₀.heap.get? b) ∧ ∀ s' pl', Sleeps C.Ss s s' → PinsAt C.Ss pl' s'.heap → C.Gh (ys ++ [x]) pl' → kap (.send .none) s'
def GP (G : Cx) (C : Cons) (σ0 : L2.St) (s₀ s : Shared) : Prop := ∃ ys pl H, ys.length ≤ sizeLine ∧ PinsAt C.Ss pl s.heap ∧ C.Gh ys pl ∧ Inv G pl σ0 H s ∧ C.Qe ys H ∧ ∀ b ∈ C.Ss, s.heap.get? b = s₀.heap.get? b
def GR (G : Cx) (C : Cons) (σ0 : L2.St) : GenEnd := fun n s₀ r s => r = .ok .next ∧ GP G C σ0 s₀ s
theorem PinsAt.same {Ss : List Addr} {pl : Pins} {h h' : Heap} (a : PinsAt Ss pl h) (b : PinsAt Ss pl h') : ∀ x ∈ Ss, h'.get? x = h.get? x := fun x hx => by
  rw [← a.ad] at hx
  obtain ⟨p, hp, e⟩ := List.mem_map.mp hx
  rw [← e, (a.at_ p hp).1, (b.at_ p hp).1]

theorem over_gl {A : Around} {elt : Expr} {gens : List Comprehension} {scope : Scope} {pos : Pos} {it acc : Value} {env : Env} : A.over (.compLoop (.GeneratorExp elt gens scope pos) 0 it acc env) [] = A.deeper env := by
  first
    | rfl
    | (obtain ⟨hd, d, fr, gs, u⟩ := A; simp [Around.over, Around.deeper, marksOver, frameCount, unitsOf, envsOf, guardsOf, pushEnvs, pushGuards, Code.envs, Code.env?, Code.isFrame, Code.guards, Code.isGuard, Code.weight, Code.frames, Code.isCreation, Code.isCaller, Code.cUnits])

/-- what each turn is to bring -/
def Turns (J : It) (g : TG) (tt : TT) (te : TE) (σ0 : L2.St) (own : List Nat) (Th : List V → V → Hp → Prop) (Qe : List V → Hp → Prop) (W : Nat → Nat → List V → Hp → Prop) : Prop :=
  ∀ i m ys H, W i m ys H → (J.stop i H ∧ Qe ys H) ∨ (J.go i H ∧ ∃ Nx : List V → Hp → Prop, (∀ ys' H', Nx ys' H' → ∃ m', m' < m ∧ W (i + 1) m' ys' H') ∧
    ∀ x H', J.yld i H x H' → g x σ0 H' fun σ2 H2 => wipe σ2 own = σ0 ∧ tt σ2 H2 fun b H3 =>
      if b = true then te σ2 H3 fun y H4 => ys.length < sizeLine ∧ Th ys y H4 ∧ Nx (ys ++ [y]) H4 else Nx ys H3)

section
variable {G : Cx} {A : Around} {C : Cons} {cenv : Env} {tg elt iter : Expr} {ifs : List Expr} {scope : Scope} {pos : Pos} {J : It} {fp : List Addr} {it : Addr} {tn : Nat → Heap → Prop} {g : TG} {tt : TT} {te : TE} {σ0 : L2.St} {own : List Nat}
  {W : Nat → Nat → List V → Hp → Prop}
theorem seg_loop (hA : A.deeper cenv = G.A) (hE : G.env = cenv) (hcalm : G.calm = true) (hxe : G.xe = fun _ _ => False) (hco : cenv.scope.isCoroutine = false)
    (T : Turn G.prog G.w G.K tg J fp it tn) (hg : PG G tg g) (ht : PTs G ifs tt) (he : PE G elt te)
    (hpn : ∀ p ∈ G.pn, p.1 ∉ C.Ss) (hap : ∀ b ∈ C.Ss, G.s_0.heap.objs.size ≤ b ∧ b ≠ G.env.locals ∧ ∀ x c, G.env.cells.lookup x = some c → c ≠ b)
    (hfp : ∀ b ∈ fp, b ≠ G.env.locals ∧ b ∉ G.fs ∧ (b ∈ G.ex ∨ G.s_0.heap.objs.size ≤ b) ∧ (∀ x c, G.env.cells.lookup x = some c → c ≠ b) ∧ (∀ p ∈ G.pn, p.1 ≠ b) ∧ b ∉ C.Ss)
    (tr : Turns J g tt te σ0 own C.Th C.Qe W) :
    ∀ (m i n : Nat) (ys : List V) (s₀ s : Shared) (H : Hp) (pl : Pins), n + ys.length = sizeLine → W i m ys H → PinsAt C.Ss pl s.heap → C.Gh ys pl → Inv G pl σ0 H s → tn i s.heap → (∀ b ∈ fp, H b = none) → (∀ b ∈ C.Ss, s.heap.get? b = s₀.heap.get? b) →
      Seg (model G.prog G.w) A (GR G C σ0) (GY G C σ0) n s₀ (.compLoop (.GeneratorExp elt [⟨tg, iter, ifs, 0⟩] scope pos) 0 (.ref it) .none cenv)
        ((model G.prog G.w).den (.compLoop (.GeneratorExp elt [⟨tg, iter, ifs, 0⟩] scope pos) 0 (.ref it) .none cenv)) [] s := by
  subst hE
  intro m
  induction m using Nat.strongRecOn with
  | ind m ih =>
    intro i n ys s₀ s H pl hn w hp hgh I hst hfr hs0
    have hov : A.over (.compLoop (.GeneratorExp elt [⟨tg, iter, ifs, 0⟩] scope pos) 0 (.ref it) .none G.env) [] = G.A := over_gl.trans hA
    have stat : ∀ {pl' : Pins} {H' : Hp}, (pl'.map (·.1) = C.Ss) → (∀ b ∈ fp, H' b = none) → ∀ b ∈ fp, FpOk G pl' H' b := fun {pl' H'} had hn b hb => by
      obtain ⟨h1, h2, h3, h4, h5, h6⟩ := hfp b hb
      refine ⟨hn b hb, h1, h2, h3, h4, fun p hp => ?_⟩
      rcases List.mem_append.mp hp with hp | hp
      · exact h5 p hp
      · intro e
        exact h6 (by rw [← had, ← e]; exact List.mem_map.mpr ⟨p, hp, rfl⟩)
    show Seg _ A _ _ _ s₀ _ ((compTurn (.GeneratorExp elt [⟨tg, iter, ifs, 0⟩] scope pos) 0 (.ref it) .none G.env).onRaise (leaving G.env)) [] s
    rw [compTurn_gen, Sem.onRaise_eq_wrap]
    refine seg_bind_wrap (wpAny_standAt ?_)
    rcases tr i m ys H w with ⟨stop, qn⟩ | ⟨go, Nx, hN, step⟩
    · refine seg_bind_wrap ?_
      rw [hov]
      refine thn (T.done G rfl rfl rfl hcalm i pl s σ0 H _ I (stat hp.ad hfr) hst stop) fun r s4 ⟨hr, I4⟩ => ?_
      subst hr
      have hp4 : PinsAt C.Ss pl s4.heap := ⟨hp.ad, fun p hm => ⟨(I4.pin p (List.mem_append_right _ hm)).1, (hp.at_ p hm).2⟩⟩
      exact seg_end (.ok .next) ⟨rfl, ys, pl, H, by omega, hp4, hgh, I4, qn, fun b hb => (hp.same hp4 b hb).trans (hs0 b hb)⟩
    · refine seg_bind_wrap ?_
      rw [hov]
      refine thn (T.item G rfl rfl rfl hcalm i pl s σ0 H _ I (stat hp.ad hfr) hst go) fun r s4 ⟨u, hr, h4⟩ => ?_
      subst hr
      refine seg_bind_wrap ?_
      rw [hov]
      refine thn h4 fun _ s5 ⟨x, H5, I5, r5, y5, st5, fr5⟩ => ?_
      have I5' := I5.pinned (stat hp.ad fr5) (T.obj _ _ st5)
      refine seg_bind_wrap ?_
      rw [hov]
      refine wpAny_mono (hg.run _ s5 σ0 H5 x u _ I5' r5 (step x H5 y5)) (fun _ s6 ⟨σ6, H6, I6, hw6, q6⟩ => ?_) fun e s' hx => absurd hx (by rw [hxe]; exact fun z => z)
      refine seg_bind_wrap ?_
      rw [hov]
      refine wpAny_mono (ht.run _ s6 σ6 H6 _ I6 q6) (fun ok s7 ⟨H7, I7, q7⟩ => ?_) fun e s' hx => absurd hx (by rw [hxe]; exact fun z => z)
      have back : ∀ {s8 : Shared} {H8 : Hp}, Inv G (pl ++ pinsAt fp s5.heap) σ6 H8 s8 → Inv G pl σ0 H8 s8 ∧ PinsAt C.Ss pl s8.heap ∧ (∀ b ∈ fp, H8 b = none) ∧ ∀ b ∈ fp, ∀ o, s5.heap.get? b = some o → s8.heap.get? b = some o := fun {s8 H8} I8 => by
        refine ⟨(I8.unpinned).weak (by rw [← hw6, wipe_length]) fun j v hv => ?_, ⟨hp.ad, fun p hm => ?_⟩, fun b hb => ?_, fun b hb o e => ?_⟩
        · rw [← hw6] at hv
          exact (wipe_some hv).1
        · exact ⟨(I8.pin p (List.mem_append_right _ (List.mem_append_left _ hm))).1, (hp.at_ p hm).2⟩
        · obtain ⟨o, e, d⟩ := T.obj _ _ st5 b hb
          exact (I8.pin (b, o) (List.mem_append_right _ (List.mem_append_right _ (mem_pinsAt hb e)))).2.1
        · exact (I8.pin (b, o) (List.mem_append_right _ (List.mem_append_right _ (mem_pinsAt hb e)))).1
      cases ok with
      | false =>
        rw [if_neg Bool.false_ne_true] at q7
        simp only [Bool.false_eq_true, if_false]
        obtain ⟨I8, hp8, hf8, hk8⟩ := back I7
        obtain ⟨m', hm', w'⟩ := hN _ _ q7
        exact seg_again rfl (ih m' hm' (i + 1) n ys s₀ s7 H7 pl hn w' hp8 hgh I8 (T.keep _ _ _ st5 hk8) hf8 fun b hb => (hp.same hp8 b hb).trans (hs0 b hb))
      | true =>
        rw [if_pos rfl] at q7
        simp only [if_true]
        have hy : ∀ v, yieldOut G.env v = yieldValue v := fun v => by simp only [yieldOut, hco, Bool.false_eq_true, if_false]
        simp only [hy]
        rw [Sem.bind_eq_wrap', Sem.bind_eq_wrap', Sem.wrap_wrap, Sem.wrap_wrap]
        refine seg_wrap ?_
        rw [hov]
        refine wpAny_mono (he.run _ s7 σ6 H7 _ I7 q7) (fun v s8 ⟨y, H8, I8', r8, hlt, hth, hnx⟩ => ?_) fun e s' hx => absurd hx (by rw [hxe]; exact fun z => z)
        obtain ⟨n, rfl⟩ : ∃ k, n = k + 1 := ⟨n - 1, by omega⟩
        obtain ⟨I8, hp8, hf8, hk8⟩ := back I8'
        obtain ⟨m', hm', w'⟩ := hN _ _ hnx
        refine seg_at (seg_yield rfl rfl rfl ⟨ys, y, pl, H8, hn, r8, hp8, hgh, I8, hth, fun b hb => (hp.same hp8 b hb).trans (hs0 b hb), fun s'' pl' hsl hpl' hgh' => ?_⟩)
        refine seg_again rfl (ih m' hm' (i + 1) n (ys ++ [y]) s'' s'' H8 pl' (by rw [List.length_append, List.length_singleton]; omega) w' hpl' hgh' (woken hpn hap hp8 I8 hsl hpl')
          (T.keep _ _ _ st5 fun b hb o e => hsl.keep b o (hfp b hb).2.2.2.2.2 (hk8 b hb o e)) hf8 fun _ _ => rfl)

theorem seg_start (hA : A.deeper cenv = G.A) (hE : G.env = cenv) (hcalm : G.calm = true) (hxe : G.xe = fun _ _ => False) (hco : cenv.scope.isCoroutine = false)
    (T : Turn G.prog G.w G.K tg J fp it tn) (hg : PG G tg g) (ht : PTs G ifs tt) (he : PE G elt te)
    (hpn : ∀ p ∈ G.pn, p.1 ∉ C.Ss) (hap : ∀ b ∈ C.Ss, G.s_0.heap.objs.size ≤ b ∧ b ≠ G.env.locals ∧ ∀ x c, G.env.cells.lookup x = some c → c ≠ b)
    (hfp : ∀ b ∈ fp, b ≠ G.env.locals ∧ b ∉ G.fs ∧ (b ∈ G.ex ∨ G.s_0.heap.objs.size ≤ b) ∧ (∀ x c, G.env.cells.lookup x = some c → c ≠ b) ∧ (∀ p ∈ G.pn, p.1 ≠ b) ∧ b ∉ C.Ss)
    (tr : Turns J g tt te σ0 own C.Th C.Qe W) {m : Nat} {s₀ s : Shared} {H : Hp} {pl : Pins} (w : W 0 m [] H) (hp : PinsAt C.Ss pl s.heap) (hgh : C.Gh [] pl) (I : Inv G pl σ0 H s) (hst : tn 0 s.heap) (hfr : ∀ b ∈ fp, H b = none) (hs0 : ∀ b ∈ C.Ss, s.heap.get? b = s₀.heap.get? b) :
    Seg (model G.prog G.w) A (GR G C σ0) (GY G C σ0) sizeLine s₀ (.compStart (.GeneratorExp elt [⟨tg, iter, ifs, 0⟩] scope pos) 0 (.ref it) .none cenv)
      ((model G.prog G.w).den (.compStart (.GeneratorExp elt [⟨tg, iter, ifs, 0⟩] scope pos) 0 (.ref it) .none cenv)) [] s := by
  have loop := seg_loop (iter := iter) (scope := scope) (pos := pos) hA hE hcalm hxe hco T hg ht he hpn hap hfp tr m 0 sizeLine [] s₀ s H pl rfl w hp hgh I hst hfr hs0
  show Seg _ A _ _ _ s₀ _ ((compStart (.GeneratorExp elt [⟨tg, iter, ifs, 0⟩] scope pos) 0 (.ref it) .none cenv).onRaise (leaving cenv)) [] s
  unfold compStart
  rw [Sem.onRaise_eq_wrap]
  show Seg _ A _ _ _ s₀ _ ((ask >>= _).wrap _ _ _ _) [] s
  refine seg_bind_wrap (wpAny_askSetting ?_)
  split
  · exact seg_again rfl loop
  · first
      | exact seg_bind_wrap (wpAny_rule (seg_bind_wrap (wpAny_standAt (seg_bind_wrap (T.self _ 0 s _ _ hst (seg_again rfl loop))))))
      | (refine seg_bind_wrap (wpAny_rule ?_); show Seg _ A _ _ _ s₀ _ ((standAt iter.pos >>= _).wrap _ _ _ _) [] s; exact seg_bind_wrap (wpAny_standAt (seg_bind_wrap (T.self _ 0 s _ _ hst (seg_again rfl loop)))))
end
end GX
set_option Elab.async false
set_option linter.all false
set_option maxRecDepth 100000
set_option maxHeartbeats 4000000
namespace GX
open PySem PySem.Spec PyProof.Rows L2 GenW

section
variable {X : Cx} {pins : Pins} {σ : L2.St} {H : Hp} {sB : Shared} {N' : List Str} {cm : List (Option Nat)} {scope : Scope}
theorem gen_start (I : Inv X pins σ H sB) (ok : CapOk X.N N' cm scope X.env.scope) {code : Value} {fp : List Addr} (hfp : ∀ b ∈ fp, FpOk X pins H b ∧ b < sB.heap.objs.size)
    {A : Around} (hA : A.handled = none) (hfr : A.frames = some (genEnv scope (cloFrom X.env.cells scope.names []) sB.heap.objs.size code builtinsNs X.env :: X.stack))
    {s2 : Shared} {m0 : Str → Option Value} (hn : s2.heap.Ns sB.heap.objs.size m0) (hk : ∀ b o, sB.heap.get? b = some o → s2.heap.get? b = some o) (hos : s2.os = sB.os) (hb : AllBare s2.gens) {pn pl : Pins}
    (hp : ∀ p ∈ pn ++ pl, s2.heap.get? p.1 = some p.2 ∧ sB.heap.objs.size < p.1 ∧ ∀ v, p.2.data ≠ .cell v) :
    Inv (gcx X sB H N' (genEnv scope (cloFrom X.env.cells scope.names []) sB.heap.objs.size code builtinsNs X.env) fp A pn) pl (captS cm σ) H s2 := by
  have hfree : ∀ y ∈ scope.names, y.2 = .free → ∃ c, X.env.cells.lookup y.1 = some c := fun y hy e => by
    rcases ok.free y hy e with k | k
    · exact I.ok.has _ (.inl k)
    · exact I.ok.has _ (.inr k)
  have cm1 : ∀ {y c}, (cloFrom X.env.cells scope.names []).lookup y = some c → X.env.cells.lookup y = some c ∧ c < sB.heap.objs.size := fun {y c} hm => by
    rcases cloFrom_mem (PySem.mem_of_lookup hm) with hm | ⟨h1, rfl⟩
    · cases hm
    · obtain ⟨c, hc⟩ := hfree _ h1 rfl
      rw [hc]
      obtain ⟨w, z⟩ := I.cell _ _ hc
      exact ⟨rfl, z.lt⟩
  have look : ∀ {y}, scope.names.lookup y = some .free → ∃ c, (cloFrom X.env.cells scope.names []).lookup y = some c ∧ X.env.cells.lookup y = some c := fun {y} hl => by
    have hy : (y, NameKind.free) ∈ scope.names := PySem.mem_of_lookup hl
    obtain ⟨c', e'⟩ := mem_lookup (cloFrom_has (cells := X.env.cells) (acc := []) hy)
    exact ⟨c', e', (cm1 e').1⟩
  have nstk : ∀ b, sB.heap.objs.size ≤ b → b ∉ frs X.stack := fun b hb z => by
    rcases List.mem_cons.mp (I.stkSub b z) with z | z
    · exact absurd (Nat.lt_of_lt_of_le I.lt (by rw [← z]; exact hb)) (Nat.lt_irrefl _)
    · exact I.nofs hb z
  have okB : (gcx X sB H N' (genEnv scope (cloFrom X.env.cells scope.names []) sB.heap.objs.size code builtinsNs X.env) fp A pn).Ok := by
    refine ⟨I.ok.mod, ok.kind, I.ok.glob, rfl, Nat.le_refl _, fun y z c e1 e2 => I.ok.inj y z c (cm1 e1).1 (cm1 e2).1, fun y hy => ?_, fun y c z e => ?_, fun _ => hA, hfr, .inr ⟨rfl, rfl⟩, fun b hb => ⟨?_, fun y c e z => ?_⟩, I.bs, Nat.le_trans I.ok.bsz I.sz, fun b o e hb => ?_, fun b hb z => ?_, I.stack, I.stkFree⟩
    · rcases hy with hy | hy
      · exact absurd rfl (ok.cell _ (PySem.mem_of_lookup hy))
      · obtain ⟨c, h1, _⟩ := look hy
        exact ⟨c, h1⟩
    · exact absurd (show false = true from z) Bool.false_ne_true
    · exact Nat.ne_of_lt (hfp b hb).2
    · exact (hfp b hb).1.2.2.2.2.1 y c (cm1 e).1 z
    · rcases (hfp b hb).1.2.2.2.1 with z | z
      · exact I.ok.noex b o e z
      · exact absurd (Nat.lt_of_lt_of_le (Heap.lt_size e) (Nat.le_trans I.ok.bsz z)) (Nat.lt_irrefl _)
    · rcases List.mem_cons.mp (I.stkSub b z) with z | z
      · exact (hfp b hb).1.2.1 z
      · exact (hfp b hb).1.2.2.1 z
  refine ⟨okB, hos, hb, Un.kept hk, ⟨m0, hn, fun i y av e1 e2 e3 => ?_⟩, fun y c e => ?_, I.hok.fresh (Nat.le_refl _), fun y c e => I.freeC y c (cm1 e).1, fun p hm => ?_, I.hok.kept hk, by
    show (captS cm σ).length = N'.length
    unfold captS
    rw [List.length_map, ok.len]⟩
  · obtain ⟨j, hj, hs⟩ := captS_some e2
    obtain ⟨hy, hf⟩ := ok.capt hj e1
    obtain ⟨m, hn2, hl⟩ := I.loc
    have hvis : Vis X.env.scope y := (ok.free _ (PySem.mem_of_lookup hf) rfl).elim (fun k => .inr (.inl k)) (fun k => .inr (.inr k))
    obtain ⟨w, r, q⟩ := hl j y av hy hs hvis
    refine ⟨w, r, .inr ⟨.inr hf, ?_⟩⟩
    obtain ⟨c, h1, h2⟩ := look hf
    rcases q with ⟨k, _⟩ | ⟨_, c', e', z⟩
    · have k : X.env.scope.names.lookup y = some .local := k
      rcases ok.free _ (PySem.mem_of_lookup hf) rfl with k' | k' <;> rw [show X.env.scope.names.lookup y = _ from k'] at k <;> cases k
    · rw [h2] at e'; cases e'
      exact ⟨c, h1, z.keeps hk⟩
  · obtain ⟨w, z⟩ := I.cell y c (cm1 e).1
    exact ⟨w, z.keeps hk⟩
  · obtain ⟨h1, h2, h3⟩ := hp p hm
    exact ⟨h1, I.hok.fresh (Nat.le_of_lt h2), Nat.ne_of_gt h2, nstk _ (Nat.le_of_lt h2), h3⟩
end

/-- a code object's table, whatever it holds -/
def TabX (P : Addr) : HO := .ext fun h => ∃ ps : Array Value, h.get? P = some { cls := .none, data := .fields ps } ∧ TriplesOk ps.toList
theorem tabx_ok {prog : Program} {w : World} {H : Hp} {h : Heap} {P : Addr} {ps : Array Value} (e : h.get? P = some { cls := .none, data := .fields ps }) (t : TriplesOk ps.toList) : ObjOk prog w H h P (TabX P) :=
  ⟨⟨ps, e, t⟩, ⟨_, e⟩, fun h1 h2 ⟨qs, e1, t1⟩ k => ⟨qs, k _ e1, t1⟩⟩
theorem upd_id {H : Hp} {a : Addr} {o : HO} (h : H a = some o) : upd H a o = H := by
  funext b
  by_cases e : b = a
  · rw [e, upd_same, h]
  · rw [upd_ne e]
/-- a generator that has not begun -/
def RdG (X : Cx) (pins : Pins) (σ : L2.St) (k : Nat) (Th : List V → V → Hp → Prop) (Qe : List V → Hp → Prop) (u : Value) (s' : Shared) : Prop :=
  ∃ (a : Addr) (g : Nat) (c : Code) (go : Obj) (sB : Shared) (HB : Hp) (N' : List Str) (cenv : Env) (fp : List Addr) (σ0 : L2.St),
    u = .ref a ∧ Inv X pins σ HB sB ∧ ExOk X pins fp ∧ sB.heap.objs.size < a ∧ a < s'.heap.objs.size ∧ (∀ h : Heap, h.get? a = some go → h.IsGen a g) ∧ s'.heap.get? a = some go ∧ s'.gens[g]? = some (.fresh c) ∧ s'.os = sB.os ∧ AllBare s'.gens ∧ (∀ b o, sB.heap.get? b = some o → s'.heap.get? b = some o) ∧
    ∀ (A : Around) (s2 : Shared) (Ss : List Addr) (Gh : List V → Pins → Prop) (pl : Pins), Room (k + 1) A → A.frames = some X.stack → (∀ b ∈ Ss, s'.heap.objs.size ≤ b) → (∀ b o, s'.heap.get? b = some o → s2.heap.get? b = some o) → s2.os = sB.os → AllBare s2.gens → PinsAt Ss pl s2.heap → Gh [] pl →
      Seg (model X.prog X.w) A (GR (gcx X sB HB N' cenv fp (A.deeper cenv) [(a, go)]) ⟨Ss, Gh, Th, Qe⟩ σ0) (GY (gcx X sB HB N' cenv fp (A.deeper cenv) [(a, go)]) ⟨Ss, Gh, Th, Qe⟩ σ0) sizeLine s2 c ((model X.prog X.w).den c) [] s2
abbrev TGx := L2.St → Hp → (List V → V → Hp → Prop) → (List V → Hp → Prop) → Prop
structure PGx (X : Cx) (k : Nat) (e : Expr) (t : TGx) : Prop where
  run : ∀ (pins : Pins) (s : Shared) (σ : L2.St) (H : Hp) (Th : List V → V → Hp → Prop) (Qe : List V → Hp → Prop), Inv X pins σ H s → t σ H Th Qe → wpAny (model X.prog X.w) X.A (eval e X.env) (RdG X pins σ k Th Qe) X.xe s
/-- the reading of a generator expression -/
def tGx (P : Addr) (wi : TI) (g : TG) (tt : TT) (te : TE) (cm : List (Option Nat)) (own : List Nat) : TGx := fun σ H Th Qe => wi σ H fun J H1 => H1 P = some (TabX P) ∧
  ∃ W : Nat → Nat → List V → Hp → Prop, (∃ m, W 0 m [] H1) ∧ Turns J g tt te (captS cm σ) own Th Qe W

theorem pgx_gen {X : Cx} {c P : Addr} {elt iter tg : Expr} {ifs : List Expr} {scope : Scope} {gpos : Pos} {N' : List Str} {cm : List (Option Nat)} {own : List Nat} {wi : TI} {g : TG} {tt : TT} {te : TE} {k k0 : Nat}
    (hr : Room k0 X.A) (TB : GxR.TabB X.base X.mg c P) (hcode : X.env.code = .ref c) (ok : CapOk X.N N' cm scope X.env.scope) (hi : PI X tg iter wi)
    (hg : ∀ (sB : Shared) (HB : Hp) (cl : List (Str × Addr)) (L : Addr) (code : Value) (fp : List Addr) (A : Around) (pn : Pins), Room k A → PG (gcx X sB HB N' (genEnv scope cl L code builtinsNs X.env) fp A pn) tg g)
    (ht : ∀ (sB : Shared) (HB : Hp) (cl : List (Str × Addr)) (L : Addr) (code : Value) (fp : List Addr) (A : Around) (pn : Pins), Room k A → PTs (gcx X sB HB N' (genEnv scope cl L code builtinsNs X.env) fp A pn) ifs tt)
    (he : ∀ (sB : Shared) (HB : Hp) (cl : List (Str × Addr)) (L : Addr) (code : Value) (fp : List Addr) (A : Around) (pn : Pins), Room k A → PE (gcx X sB HB N' (genEnv scope cl L code builtinsNs X.env) fp A pn) elt te)
    (hs : ∀ v, genFold iter X.env v = pure v := by intro _; rfl) : PGx X k (.GeneratorExp elt [⟨tg, iter, ifs, 0⟩] scope gpos) (tGx P wi g tt te cm own) := by
  refine ⟨fun pins s σ H Th Qe I h => ?_⟩
  have hfree : ∀ y ∈ scope.names, y.2 = .free → ∃ c, X.env.cells.lookup y.1 = some c := fun y hy e => by
    rcases ok.free y hy e with k | k
    · exact I.ok.has _ (.inl k)
    · exact I.ok.has _ (.inr k)
  refine wpAny_GeneratorExp_make ok.co (closure_ok hfree) ok.cell ok.dot ok.kind (by have := hr.dp; omega) ?_ hs
  refine thn (hi.run pins s σ H _ I h) fun xv s1 h1 => thn h1 fun itv s2 h2 => ?_
  obtain ⟨it, fp, tn, J, H2, rfl, I2, T, st2, f2, hP, W, ⟨m0, w0⟩, tr⟩ := h2
  obtain ⟨⟨ps, hPs, ht3⟩, _, _⟩ := I2.hok P _ hP
  have cd : PySem.W.CodeHd s2.heap c P := TB.code.keeps fun b u e => I2.bk b u e
  have fpP : ∀ b ∈ fp, b ≠ P := fun b hb z => by
    have q := (f2 b hb).1
    rw [z, hP] at q; cases q
  have fplt : ∀ b ∈ fp, b < s2.heap.objs.size := fun b hb => let ⟨o, e, _⟩ := T.obj _ _ st2 b hb; Heap.lt_size e
  have cont : ∀ (code : Value) (h3 : Heap) (tk : Nat) (ps' : Array Value), Heap.ExtBut P s2.heap h3 → s2.heap.objs.size ≤ h3.objs.size → h3.get? P = some { cls := .none, data := .fields ps' } → (∃ more, ps' = ps ++ more) → TriplesOk ps'.toList →
      wpAny (model X.prog X.w) X.A (builtinsFor X.env.globals X.env.builtins) (fun bi s₄ =>
        ∀ h', h'.Ns s₄.heap.objs.size (fun y => if y = ".0" then some (.ref it) else none) → Heap.SameBut s₄.heap.objs.size (s₄.heap.push { cls := .type "frame", data := .dict #[] }) h' →
          RdG X pins σ k Th Qe (.ref h'.objs.size) { s₄ with
            gens := s₄.gens.push (.fresh (.compStart (.GeneratorExp elt [⟨tg, iter, ifs, 0⟩] scope gpos) 0 (.ref it) .none (genEnv scope (cloFrom X.env.cells scope.names []) s₄.heap.objs.size code bi X.env))),
            toks := s₄.toks + 1 + 1 + 1,
            heap := h'.push { cls := .type "generator", data := .fields #[.int s₄.gens.size 0, .str "<genexpr>" (s₄.toks + 1), .str (X.env.qual ++ "<genexpr>") (s₄.toks + 1 + 1)] } }) X.xe { s2 with heap := h3, toks := tk } := by
    intro code h3 tk ps' hx hsz hP3 hmore ht4
    obtain ⟨bm, ob, e1, e2, e3, e4, e5, e6, e7, e8⟩ := TB.bm
    refine wpAny_builtinsFor (m := X.mg) (by rw [I2.ok.glob]; exact (I2.mod.glob.keeps I2.bk).extBut hx TB.gP) e1 e2 (hx _ _ e4 (I2.bk _ _ e5)) e6 e7 e8 ?_
    intro h' hn' hs'
    obtain ⟨more, em⟩ := hmore
    subst em
    have J3 : Inv X pins σ H2 { s2 with heap := h3, toks := tk } := by
      have q := I2.write (x := P) (e := P) (o := TabX P) (h' := h3) (t' := tk) (by rw [hP]; trivial) (.inl rfl) (fun b u hb hu => hx b u hb hu) ⟨_, hP3⟩ (tabx_ok hP3 ht4)
      rw [upd_id hP] at q
      exact q
    generalize hgo : ({ cls := .type "generator", data := .fields #[.int s2.gens.size 0, .str "<genexpr>" (tk + 1), .str (X.env.qual ++ "<genexpr>") (tk + 1 + 1)] } : Obj) = go
    have hsz' : h'.objs.size = h3.objs.size + 1 := by
      have q := hs'.1
      rw [q, Heap.size_push]
    have keep' : ∀ b o, h3.get? b = some o → h'.get? b = some o := fun b o e => hs'.extBut b o (Nat.ne_of_lt (Heap.lt_size e)) (Heap.get?_push_of_some _ e)
    have goat : (h'.push go).get? h'.objs.size = some go := by
      subst hgo
      exact Heap.get?_push_size _ rfl
    have fp3 := f2
    refine ⟨h'.objs.size, s2.gens.size, _, go, { s2 with heap := h3, toks := tk }, H2, N', genEnv scope (cloFrom X.env.cells scope.names []) h3.objs.size code builtinsNs X.env, fp, captS cm σ, rfl, J3, fun b hb => ⟨(f2 b hb).2.2.2.1, (f2 b hb).2.1, (f2 b hb).2.2.2.2.1, (f2 b hb).2.2.2.2.2⟩, ?_, ?_, fun h e => ?_, goat, Array.getElem?_push_size .., rfl, ?_, fun b o e => ?_, fun A s2' Ss Gh pl hrA hfr hSs hk2 hos2 hb2 hpl hgh => ?_⟩
    · show h3.objs.size < h'.objs.size
      omega
    · show h'.objs.size < (h'.push _).objs.size
      rw [Heap.size_push]; exact Nat.lt_succ_self _
    · subst hgo
      exact ⟨_, _, _, e, rfl, rfl, rfl⟩
    · exact AllBare.push I2.bare rfl
    · exact Heap.get?_push_of_some _ (keep' b o e)
    · have keep2 : ∀ b o, h3.get? b = some o → s2'.heap.get? b = some o := fun b o e => hk2 b o (Heap.get?_push_of_some _ (keep' b o e))
      have hpins : ∀ p ∈ [(h'.objs.size, go)] ++ pl, s2'.heap.get? p.1 = some p.2 ∧ h3.objs.size < p.1 ∧ ∀ v, p.2.data ≠ .cell v := fun p hp => by
        rcases List.mem_append.mp hp with hp | hp
        · rw [List.mem_singleton.mp hp]
          refine ⟨hk2 h'.objs.size go ?_, by show h3.objs.size < h'.objs.size; omega, fun v q => by subst hgo; cases q⟩
          exact goat
        · have hS : p.1 ∈ Ss := by rw [← hpl.ad]; exact List.mem_map.mpr ⟨p, hp, rfl⟩
          have q := hSs _ hS
          have q2 : (h'.push go).objs.size ≤ p.1 := by subst hgo; exact q
          rw [Heap.size_push] at q2
          refine ⟨(hpl.at_ p hp).1, ?_, (hpl.at_ p hp).2⟩
          have q3 : h'.objs.size < p.1 := Nat.lt_of_succ_le q2
          rw [hsz'] at q3
          exact Nat.lt_of_succ_lt q3
      have IG := gen_start (code := code) (cm := cm) (N' := N') (fp := fp) J3 ok (fun b hb => ⟨fp3 b hb, Nat.lt_of_lt_of_le (fplt b hb) hsz⟩) (A := A.deeper (genEnv scope (cloFrom X.env.cells scope.names []) h3.objs.size code builtinsNs X.env)) hrA.hd
        (by show A.frames.map _ = _; rw [hfr]; rfl) (s2 := s2') (m0 := fun y => if y = ".0" then some (.ref it) else none) ((hn'.push _).keeps hk2) keep2 hos2 hb2 hpins
      have hSlt : ∀ b ∈ Ss, h'.objs.size < b := fun b hb => by
        have q := hSs b hb
        have q2 : (h'.push go).objs.size ≤ b := by subst hgo; exact q
        rw [Heap.size_push] at q2
        exact Nat.lt_of_succ_le q2
      have hrD := hrA.deeper (genEnv scope (cloFrom X.env.cells scope.names []) h3.objs.size code builtinsNs X.env)
      have cmL : ∀ {y c}, (cloFrom X.env.cells scope.names []).lookup y = some c → X.env.cells.lookup y = some c := fun {y c} hm => by
        rcases cloFrom_mem (PySem.mem_of_lookup hm) with hm | ⟨h1, rfl⟩
        · cases hm
        · obtain ⟨c, hc⟩ := hfree _ h1 rfl
          rw [hc] <;> rfl
      refine seg_start (G := gcx X { s2 with heap := h3, toks := tk } H2 N' (genEnv scope (cloFrom X.env.cells scope.names []) h3.objs.size code builtinsNs X.env) fp (A.deeper (genEnv scope (cloFrom X.env.cells scope.names []) h3.objs.size code builtinsNs X.env)) [(h'.objs.size, go)]) (C := ⟨Ss, Gh, Th, Qe⟩) (own := own) (W := W) rfl rfl rfl rfl ok.co T (hg _ _ _ _ _ _ _ _ hrD) (ht _ _ _ _ _ _ _ _ hrD) (he _ _ _ _ _ _ _ _ hrD) (fun p hp z => ?_) (fun b hb => ⟨?_, ?_, fun x c e z => ?_⟩) (fun b hb => ⟨?_, ?_, .inl hb, fun x c e => ?_, fun p hp => ?_, fun z => ?_⟩) tr w0 hpl hgh IG (T.keep _ _ _ st2 fun b hb o e => ?_) (fun b hb => (fp3 b hb).1) (fun _ _ => rfl)
      · rw [List.mem_singleton.mp hp] at z
        exact Nat.lt_irrefl _ (hSlt _ z)
      · exact Nat.le_of_lt (Nat.lt_of_le_of_lt (by omega : h3.objs.size ≤ h'.objs.size) (hSlt b hb))
      · exact Nat.ne_of_gt (Nat.lt_of_le_of_lt (by omega : h3.objs.size ≤ h'.objs.size) (hSlt b hb))
      · obtain ⟨w, q⟩ := I2.cell x c (cmL e)
        have q1 := q.lt
        rw [z] at q1
        exact Nat.lt_irrefl _ (Nat.lt_trans (Nat.lt_of_lt_of_le q1 hsz) (Nat.lt_of_le_of_lt (by omega : h3.objs.size ≤ h'.objs.size) (hSlt b hb)))
      · exact Nat.ne_of_lt (Nat.lt_of_lt_of_le (fplt b hb) hsz)
      · intro z
        rcases List.mem_cons.mp (J3.stkSub b z) with z | z
        · exact (fp3 b hb).2.1 z
        · exact (fp3 b hb).2.2.1 z
      · exact (f2 b hb).2.2.2.2.1 x c (cmL e)
      · rw [List.mem_singleton.mp hp]
        exact Nat.ne_of_gt (Nat.lt_of_lt_of_le (fplt b hb) (by omega : s2.heap.objs.size ≤ h'.objs.size))
      · exact Nat.lt_irrefl _ (Nat.lt_trans (Nat.lt_of_lt_of_le (fplt b hb) (by omega : s2.heap.objs.size ≤ h'.objs.size)) (hSlt b z))
      · exact keep2 b o (hx b o (fpP b hb) e)
  refine ⟨I2.nolimit, ?_⟩
  cases hf : codeAmong gpos ps.toList with
  | none =>
    refine wpAny_genexprCodeX hcode (cd.code hPs ht3) (cd.tab hPs) hf fun c' h' tk hx hge hlt hco' _ htab' _ => ?_
    obtain ⟨o1, vs, f1, tf, fl, tg, inF, tx, tt, op, _, _, _, _, _, _, _, _, _, htr, _⟩ := hco'
    exact cont _ h' tk _ hx (Nat.le_trans hge (Nat.le_of_lt hlt)) htab'.2 ⟨_, rfl⟩ htr
  | some cv =>
    refine wpAny_genexprCode_hit hcode (cd.code hPs ht3) hf ?_
    exact cont cv s2.heap s2.toks ps (Heap.ExtBut.refl _ _) (Nat.le_refl _) hPs ⟨#[], by simp⟩ ht3
end GX
set_option Elab.async false
set_option linter.all false
set_option maxRecDepth 100000
set_option maxHeartbeats 4000000
namespace GX
open PySem PySem.Spec PyProof.Rows L2 GenW

/-- the generator g sleeps (or has not begun), n items at most are to come -/
def Susp (G : Cx) (C : Cons) (σ0 : L2.St) (A : Around) (g n : Nat) (s : Shared) : Prop :=
  ∃ gs, s.gens[g]? = some gs ∧ gs.Goes (model G.prog G.w) A.in1 (GR G C σ0) (GY G C σ0) n (.send .none) (s.setGen g .running)

section
variable {G : Cx} {C : Cons} {σ0 : L2.St} {A : Around} {a : Addr} {g n : Nat} {go : Obj} {s : Shared} {E : Value → Shared → Prop} {Q : Option Value → Shared → Prop}
theorem gx_next (hh : A.handled = none) (hd : A.depth < recursionLimit) (hl : s.heap.NoLimit) (hg : s.heap.IsGen a g) (hS : Susp G C σ0 A g n s)
    (hY : ∀ ys x v pl H s1, n - 1 + 1 + ys.length = sizeLine → RelV x v → PinsAt C.Ss pl s1.heap → C.Gh ys pl → Inv G pl σ0 H s1 → C.Th ys x H → (∀ b ∈ C.Ss, s1.heap.get? b = s.heap.get? b) →
      (∀ s' pl', Sleeps C.Ss s1 s' → s'.gens = s1.gens → PinsAt C.Ss pl' s'.heap → C.Gh (ys ++ [x]) pl' → ∃ m, n = m + 1 ∧ Susp G C σ0 A g m s') → Q (some v) s1)
    (hP : ∀ s1, GP G C σ0 s s1 → Q none s1) : wpAny (model G.prog G.w) A (pyNext (.ref a)) Q E s := by
  obtain ⟨gs, hgs, hgo⟩ := hS
  have hgl : g < s.gens.size := (Array.getElem?_eq_some_iff.mp hgs).1
  refine wpAny_gsz (n := g + 1) hgl ?_
  refine wpAny_pyNext_genexpQ (P := fun n s₀ s₁ => GP G C σ0 s₀ s₁) hh hl hd hg hgs hgo (fun v s₁ gs' hbare hv hsz => ?_) (fun s₁ hp h' hk hsz => ?_)
  · obtain ⟨ys, x, pl, H, h1, h2, h3, h4, h5, h6, h8, h7⟩ := hv
    have hsz1 : g < s₁.gens.size := by
      have q : (s₁.setGen g gs').gens.size = s₁.gens.size := setGen_size _ _ _
      have hsz' : g + 1 ≤ (s₁.setGen g gs').gens.size := hsz
      omega
    refine hY ys x v pl H _ h1 h2 h3 h4 (inv_gens h5 hbare) h6 h8 fun s' pl' hsl hge hpl' hgh' => ?_
    have hsl2 : Sleeps C.Ss s₁ (s'.setGen g .running) := ⟨hsl.os, allBare_setGen hsl.bare rfl, hsl.keep⟩
    have q := h7 (s'.setGen g .running) pl' hsl2 hpl' hgh'
    cases n with
    | zero => exact False.elim q
    | succ m =>
      refine ⟨m, rfl, gs', ?_, q⟩
      rw [hge]
      exact setGen_at hsz1
  · obtain ⟨ys, pl, H, h1, h2, h3, h4, h5, h6⟩ := hp
    have hp2 : PinsAt C.Ss pl h' := ⟨h2.ad, fun p hp => ⟨hk _ _ (h2.at_ p hp).1, (h2.at_ p hp).2⟩⟩
    have I1 := inv_gens (g := g) (x := .finished) h4 rfl
    exact hP _ ⟨ys, pl, H, h1, hp2, h3, I1.kept (t' := s₁.toks) hk, h5, fun b hb => (h2.same hp2 b hb).trans (h6 b hb)⟩
end

/-- a generator just made, now drained: at its first resumption -/
theorem susp_of {X : Cx} {A : Around} {C : Cons} {sB : Shared} {HB : Hp} {N' : List Str} {cenv : Env} {fp : List Addr} {σ0 : L2.St} {a g : Nat} {go : Obj} {c : Code} {s2 : Shared} (hgs : s2.gens[g]? = some (.fresh c))
    (h : Seg (model X.prog X.w) A.in1 (GR (gcx X sB HB N' cenv fp (A.in1.deeper cenv) [(a, go)]) C σ0) (GY (gcx X sB HB N' cenv fp (A.in1.deeper cenv) [(a, go)]) C σ0) sizeLine (s2.setGen g .running) c ((model X.prog X.w).den c) [] (s2.setGen g .running)) :
    Susp (gcx X sB HB N' cenv fp (A.in1.deeper cenv) [(a, go)]) C σ0 A g sizeLine s2 := ⟨_, hgs, rfl, h⟩

section
variable {X : Cx} {pins : Pins} {σ : L2.St} {HB H : Hp} {sB s' : Shared} {N' : List Str} {cenv : Env} {fp : List Addr} {σ0 : L2.St} {A : Around} {pn pl : Pins}
/-- back outside -/
theorem inv_back (I : Inv X pins σ HB sB) (hex : ExOk X pins fp) (J : Inv (gcx X sB HB N' cenv fp A pn) pl σ0 H s') : Inv X pins σ H s' :=
  I.call' (ch := fp) J.os J.base J.hok J.bare hex
end

/-! ### list.extend's loop -/
def GhL (S : Addr) : List V → Pins → Prop := fun ys pl => ∃ (acc : Array Value) (c : Nat), pl = [(S, lstObj acc c)] ∧ Vals ys acc.toList
theorem ghl_at {S : Addr} {ys : List V} {pl : Pins} {h : Heap} (g : GhL S ys pl) (p : PinsAt [S] pl h) : ∃ (acc : Array Value) (c : Nat), h.get? S = some (lstObj acc c) ∧ Vals ys acc.toList := by
  obtain ⟨acc, c, rfl, r⟩ := g
  exact ⟨acc, c, (p.at_ _ (List.mem_singleton.mpr rfl)).1, r⟩
theorem drainL {G : Cx} {Th : List V → V → Hp → Prop} {Qe : List V → Hp → Prop} {σ0 : L2.St} {A : Around} {a S : Addr} {g : Nat} {go : Obj} {res : Value} {R : Result → Shared → Prop} (hh : A.handled = none) (hd : A.depth < recursionLimit) (hpa : (a, go) ∈ G.pn) (hgo : ∀ h : Heap, h.get? a = some go → h.IsGen a g)
    (hSa : S ≠ a) (hSc : S ≠ cStatics)
    (hend : ∀ s' ys acc c pl H, ys.length ≤ sizeLine → s'.heap.get? S = some (lstObj acc c) → Vals ys acc.toList → Inv G pl σ0 H s' → H S = none → Qe ys H → R (.ok (.ret res)) s') :
    ∀ (n : Nat) (s : Shared), s.heap.NoLimit → s.heap.IsGen a g → Susp G ⟨[S], GhL S, Th, Qe⟩ σ0 A.in1 g n s → codeAny (model G.prog G.w) A (.builtin "list.extend.loop" ⟨[.ref S, .ref a, res], []⟩) R s := by
  intro n
  induction n using Nat.strongRecOn with
  | ind n ih =>
    intro s hl hg hS
    refine codeAny_builtin F.entry_extend_loop ?_
    rw [Around.under_plainId F.plain_extend_loop _]
    show wpAny _ A.in1 (pyNext (.ref a) >>= _) _ _ s
    refine wpAny_bind (gx_next (A := A.in1) hh hd hl hg hS (fun ys x v pl H s1 h1 h2 h3 h4 h5 h6 _ h7 => ?_) fun s1 hp => ?_)
    · obtain ⟨acc, c, hS1, hv⟩ := ghl_at h4 h3
      have hlen : acc.toList.length = ys.length := hv.length.symm
      have hacc : acc.size < sizeLine := by
        have e : acc.toList.length = acc.size := by simp
        omega
      show wpAny _ A.in1 (updateSeq S (·.push v) >>= _) _ _ _
      refine wpAny_bind ?_
      refine wpAny_updateSeq hS1 rfl (wpAny_pure ⟨plainId_quiet F.plain_extend_loop _, ?_⟩) (Nat.le_of_lt hacc) (by show (acc.push v).size ≤ sizeLine + 1; rw [Array.size_push]; omega)
      have keep3 : ∀ b o, b ≠ S → s1.heap.get? b = some o → (s1.heap.update S (Obj.mapSeq (·.push v))).get? b = some o := fun b o hbS e => (Heap.get?_update_other _ _ (Ne.symm hbS)).trans e
      have hSn : ∃ c', (s1.heap.update S (Obj.mapSeq (·.push v))).get? S = some (lstObj (acc.push v) c') := ⟨_, Heap.get?_update_self _ hS1 rfl⟩
      obtain ⟨c', hSn⟩ := hSn
      obtain ⟨m, hm, hS2⟩ := h7 { s1 with heap := s1.heap.update S (Obj.mapSeq (·.push v)) } [(S, lstObj (acc.push v) c')] ⟨rfl, h5.bare, fun b o hb e => keep3 b o (fun z => hb (by rw [z]; exact List.mem_singleton.mpr rfl)) e⟩ rfl
        ⟨rfl, fun p hp => by rw [List.mem_singleton.mp hp]; exact ⟨hSn, fun v q => by cases q⟩⟩ ⟨_, _, rfl, by rw [Array.toList_push]; exact hv.append (.cons h2 .nil)⟩
      refine ih m (by omega) _ ?_ ?_ hS2
      · obtain ⟨mc, hns, hnn⟩ := h5.nolimit
        exact ⟨mc, hns.at' fun o e => keep3 _ o (Ne.symm hSc) e, hnn⟩
      · exact hgo _ (keep3 a go (Ne.symm hSa) (h5.pin (a, go) (List.mem_append_left _ hpa)).1)
    · obtain ⟨ys, pl, H, q1, q2, q3, q4, q5, _⟩ := hp
      obtain ⟨acc, c, hS1, hv⟩ := ghl_at q3 q2
      have hn : H S = none := by
        obtain ⟨acc', c', e, _⟩ := q3
        exact (q4.pin (S, lstObj acc' c') (List.mem_append_right _ (by rw [e]; exact List.mem_singleton.mpr rfl))).2.1
      exact wpAny_pure (hend _ ys acc c pl H q1 hS1 hv q4 hn q5)

/-- collect(g): the items in a list at S, untracked -/
theorem collect_gx {X : Cx} {pins : Pins} {σ : L2.St} {k : Nat} {Th : List V → V → Hp → Prop} {Qe : List V → Hp → Prop} {u : Value} {s : Shared} {A : Around} {Q : List Value → Shared → Prop} {E : Value → Shared → Prop} (hr : Room (k + 4) A) (hfr : A.frames = some X.stack)
    (hTh : ∀ ys x H, Th ys x H) (h : RdG X pins σ k Th Qe u s) (hQ : ∀ s' its ys H, ys.length ≤ sizeLine → Vals ys its → Inv X pins σ H s' → Qe ys H → Q its s') : wpAny (model X.prog X.w) A (collect u) Q E s := by
  obtain ⟨a, g, c, go, sB, HB, N', cenv, fp, σ0, rfl, I, hex, ha1, ha2, hgo, hat, hgs, hos, hb, hkp, run⟩ := h
  have hsB : sB.heap.NoLimit := I.nolimit
  have hcl : cStatics < sB.heap.objs.size := let ⟨_, hn, _⟩ := hsB; hn.lt
  have hlim : s.heap.NoLimit := hsB.keeps hkp
  have hSa : s.heap.objs.size ≠ a := Nat.ne_of_gt ha2
  have hSc : s.heap.objs.size ≠ cStatics := Nat.ne_of_gt (Nat.lt_trans hcl (Nat.lt_trans ha1 ha2))
  unfold collect
  refine wpAny_bind (wpAny_runValue (codeAny_builtin F.entry_proto_collect ?_))
  rw [Around.under_plainId F.plain_proto_collect _]
  show wpAny _ A.in1 (newList [] >>= fun l => again (.builtin "list.__iadd__" ⟨[l, .ref a], []⟩)) _ _ s
  refine wpAny_bind (wpAny_newObj_type ?_)
  refine wpAny_pure ⟨plainId_quiet F.plain_list_iadd _, codeAny_builtin F.entry_list_iadd ?_⟩
  rw [Around.under_plainId F.plain_list_iadd _]
  have hS₁ : (s.heap.push { cls := .type "list", data := .seq ([] : List Value).toArray }).get? s.heap.objs.size = some { cls := .type "list", data := .seq ([] : List Value).toArray } := Heap.get?_push_size _ rfl
  have k1 : ∀ b o, s.heap.get? b = some o → (s.heap.push { cls := .type "list", data := .seq ([] : List Value).toArray }).get? b = some o := fun b o e => Heap.get?_push_of_some _ e
  have gty : (s.heap.push { cls := .type "list", data := .seq ([] : List Value).toArray }).IsGen a g := hgo _ (k1 _ _ hat)
  show wpAny _ A.in1 (Builtin.List.listExtendWith (.ref s.heap.objs.size) (.ref a) (.ref s.heap.objs.size)) _ _ _
  unfold Builtin.List.listExtendWith
  refine wpAny_bind (wpAny_typeOf (Heap.IsGen.typeIs (s := { s with heap := _ }) gty) ?_)
  have h1 : Builtin.List.listSameRef (.ref s.heap.objs.size) (.ref a) = false := by simp [Builtin.List.listSameRef, hSa]
  have h2 : (Value.type "generator" == Value.type "list") = false := by decide
  have h3 : (Value.type "generator" == Value.type "tuple") = false := by decide
  simp only [h1, h2, h3, Bool.or_false, Bool.false_eq_true, if_false]
  refine wpAny_bind (wpAny_pyIter_gen (s := { s with heap := _ }) gty ?_)
  refine wpAny_bind (wpAny_holding ?_)
  unfold Builtin.List.listLengthHint
  refine wpAny_bind (wpAny_specialOf (Heap.IsGen.typeIs (s := { s with heap := _ }) gty) F.gen_no_len ?_)
  show wpAny _ A.in1 (specialOf (Value.ref a) (Str.ofString "__length_hint__") >>= _) _ _ _
  refine wpAny_bind (wpAny_specialOf (Heap.IsGen.typeIs (s := { s with heap := _ }) gty) F.gen_no_hint ?_)
  refine wpAny_pure ?_
  show wpAny _ A.in1 (rule "list.extend.makes-room" >>= fun _ => Builtin.List.listTouch (.ref s.heap.objs.size) >>= fun _ =>
    again (.builtin "list.extend.loop" ⟨[.ref s.heap.objs.size, .ref a, .ref s.heap.objs.size], []⟩)) _ _ _
  refine wpAny_bind (wpAny_rule ?_)
  refine wpAny_bind ?_
  show wpAny _ A.in1 (updateSeq s.heap.objs.size (·.push .none) >>= fun _ => updateSeq s.heap.objs.size (·.pop)) _ _ _
  refine wpAny_bind (wpAny_updateSeq hS₁ rfl ?_)
  have hS3 := Heap.get?_update_self (Obj.mapSeq (·.push Value.none)) hS₁ rfl
  refine wpAny_updateSeq (hz := by seq_fits) hS3 rfl ?_
  have hS4 := Heap.get?_update_self (Obj.mapSeq (·.pop)) hS3 rfl
  have up : ∀ (h : Heap) (f : Obj → Obj), (∀ b o, s.heap.get? b = some o → h.get? b = some o) → ∀ b o, s.heap.get? b = some o → (h.update s.heap.objs.size f).get? b = some o := fun h f q b o e =>
    (Heap.get?_update_other _ _ (Ne.symm (Nat.ne_of_lt (Heap.lt_size e)))).trans (q b o e)
  have k4 := up _ (Obj.mapSeq (·.pop)) (up _ (Obj.mapSeq (·.push Value.none)) k1)
  refine wpAny_pure ⟨plainId_quiet F.plain_extend_loop _, ?_⟩
  have hroom : Room (k + 1) A.in1.in1 := ⟨hr.hd, by have := hr.dp; show A.depth + 3 * (k + 1) + 5 < _; omega, by have := hr.un; show A.units + 1 + 1 + 16 * (k + 1) + 200 < _; omega⟩
  refine drainL (G := gcx X sB HB N' cenv fp (A.in1.in1.deeper cenv) [(a, go)]) (Th := Th) (Qe := Qe) (σ0 := σ0) (go := go) hr.hd (by have := hr.dp; show A.depth < _; omega) (List.mem_singleton.mpr rfl) hgo hSa hSc
    (fun s' ys acc c pl H q1 q2 q3 q4 q5 q6 => ?_) sizeLine _ (hlim.keeps k4) (hgo _ (k4 _ _ hat)) (susp_of hgs (run A.in1.in1 _ [s.heap.objs.size] (GhL s.heap.objs.size) _ hroom hfr (fun b hb => by rw [List.mem_singleton.mp hb]; exact Nat.le_refl _) k4 hos (allBare_setGen (s := { s with heap := _ }) hb rfl)
      ⟨rfl, fun p hp => by rw [List.mem_singleton.mp hp]; exact ⟨hS4, fun v q => by cases q⟩⟩ ⟨#[], _, rfl, .nil⟩))
  show wpAny _ A (load s.heap.objs.size >>= _) _ _ s'
  refine wpAny_bind (wpAny_load q2 ?_)
  exact wpAny_pure (hQ s' acc.toList ys H q1 q3 (inv_back I hex q4) q6)
end GX
set_option Elab.async false
set_option linter.all false
set_option maxRecDepth 100000
set_option maxHeartbeats 4000000
namespace GX
open PySem PySem.Spec PyProof.Rows L2 GenW

theorem boot_sorted' : bootBuiltins "sorted" = some (.builtin "sorted") := by decide +kernel
theorem boot_sum' : bootBuiltins "sum" = some (.builtin "sum") := by decide +kernel
theorem boot_any' : bootBuiltins "any" = some (.builtin "any") := by decide +kernel
theorem boot_all' : bootBuiltins "all" = some (.builtin "all") := by decide +kernel

section
variable {X : Cx} {pins : Pins} {σ : L2.St} {H : Hp} {s : Shared}
theorem inv_A (I : Inv X pins σ H s) {A' : Around} (h1 : A'.handled = X.A.handled) (h2 : A'.frames = X.A.frames) : Inv { X with A := A' } pins σ H s :=
  ⟨⟨I.ok.mod, I.ok.kind, I.ok.glob, I.ok.blt, I.ok.above, I.ok.inj, I.ok.has, I.ok.cab, fun c => h1.trans (I.ok.hd c), h2.trans I.ok.frames, I.ok.stk, I.ok.exf, I.ok.bs, I.ok.bsz, I.ok.noex, I.ok.exfs, I.ok.funs, I.ok.frf⟩, I.os, I.bare, I.base, I.loc, I.cell, I.free, I.freeC, I.pin, I.hok, I.len⟩
theorem inv_A' {A' : Around} (I : Inv { X with A := A' } pins σ H s) (h1 : X.A.handled = A'.handled) (h2 : X.A.frames = A'.frames) : Inv X pins σ H s := inv_A (X := { X with A := A' }) I h1 h2
end

section
variable {X : Cx} {p pos : Pos} {e : Expr} {tg : TGx} {k : Nat}
/-- sorted(g): r is list.sort's rule -/
def tSortedG (tg : TGx) (r : V → List V → Hp → VK → Prop) : TE := fun σ H Q => tg σ H (fun _ _ _ => True) fun ys H1 => ∀ l, H1 l = none → r (.ref l) [] (upd H1 l (.lst ys)) fun _ H2 => Q (.ref l) H2
theorem pe_sortedG {r : V → List V → Hp → VK → Prop} (h : PGx X k e tg) (hs : ∀ A', MtR { X with A := A' } "list.sort" r) (hr : Room (k + 5) X.A) (hg : Gl X "sorted") (hm : X.mg "sorted" = none)
    (he : starEach [e] X.env = (false, eval e X.env) :: starEach [] X.env := by rfl) : PE X (.Call (.Name "sorted" p) [e] [] pos) (tSortedG tg r) := by
  refine ⟨fun pins s σ H Q I hq => ?_⟩
  refine wpAny_Call_Name_kw (ld_blt I hg hm boot_sorted' ?_)
  refine PyProof.Rows.callWith_builtin1 ?_ he (by rfl)
  rw [he]
  show wpAny _ _ (spliced ((false, eval e X.env) :: backTo pos (starEach [] X.env))) _ _ s
  refine Calls.spliced_cons (thn (h.run pins s σ H _ _ I hq) fun u s1 hG => ?_)
  refine Calls.spliced_nil ?_
  refine Calls.call_function_entry kind_sorted plain_sorted entry_sorted (args_sorted1 _) ?_
  unfold Builtin.«sorted»
  refine wpAny_bind (m := checkCount "sorted" 1 1 _) (wpAny_pure ?_)
  have hr1 : Room (k + 4) X.A.in1 := ⟨hr.hd, by have := hr.dp; show X.A.depth + 3 * (k + 4) + 5 < _; omega, by have := hr.un; show X.A.units + 1 + 16 * (k + 4) + 200 < _; omega⟩
  refine wpAny_bind (collect_gx (pins := pins) (σ := σ) hr1 I.ok.frames (fun _ _ _ => trivial) hG fun s' its ys H1 hlen hv I1 hq1 => ?_)
  have hil : its.length ≤ sizeLine := by rw [← hv.length]; exact hlen
  refine wpAny_bind (wpAny_newList ?_ hil)
  have fresh : H1 s'.heap.objs.size = none := I1.hok.fresh (Nat.le_refl _)
  have I2 : Inv X pins σ (upd H1 s'.heap.objs.size (.lst ys)) { s' with heap := s'.heap.push (seqObj "list" its.toArray 0) } :=
    I1.laid (t' := s'.toks) (fun _ _ e => Heap.get?_push_of_some _ e) (Nat.le_refl _) ⟨hlen, its, 0, hv, Heap.get?_push_size _ rfl⟩
  refine wpAny_bind (wpAny_holding ?_)
  refine wpAny_mono (hs X.A.in1 pins _ σ _ (.ref s'.heap.objs.size) [] (.ref s'.heap.objs.size) [] _ (inv_A (A' := X.A.in1) I2 rfl rfl) rfl .nil (hq1 _ fresh)) (fun v s3 h3 => ?_) fun _ _ e => e
  obtain ⟨v', H3, I3, r3, q3⟩ := h3
  exact wpAny_pure ⟨_, rfl, .ref s'.heap.objs.size, H3, inv_A' I3 rfl rfl, rfl, q3⟩

/-! ### sum -/
def vsum : List V → Int
  | [] => 0
  | .int i :: r => i + vsum r
  | _ :: r => vsum r
theorem vsum_append (xs ys : List V) : vsum (xs ++ ys) = vsum xs + vsum ys := by
  induction xs with
  | nil => simp [vsum]
  | cons v r ih =>
    cases v <;> simp [vsum, ih] <;> omega
theorem vsum_ints (is : List Int) : vsum (is.map V.int) = is.sum := by
  induction is with
  | nil => rfl
  | cons i r ih => simp [vsum, ih]
def GhS (S : Addr) : List V → Pins → Prop := fun ys pl => ∃ (t : Tok) (c : Nat), pl = [(S, lstObj #[.int (vsum ys) t] c)]
def ThS : List V → V → Hp → Prop := fun ys x _ => ∃ j, x = .int j ∧ InLong j ∧ InLong (vsum ys + j)
theorem drainS {G : Cx} {Qe : List V → Hp → Prop} {σ0 : L2.St} {A : Around} {a S : Addr} {g : Nat} {go : Obj} {R : Result → Shared → Prop} (hh : A.handled = none) (hd : A.depth < recursionLimit) (hpa : (a, go) ∈ G.pn) (hgo : ∀ h : Heap, h.get? a = some go → h.IsGen a g)
    (hSa : S ≠ a) (hSc : S ≠ cStatics)
    (hend : ∀ s' ys t pl H, Inv G pl σ0 H s' → Qe ys H → R (.ok (.ret (.int (vsum ys) t))) s') :
    ∀ (n : Nat) (s : Shared) (z : Int) (t : Tok) (c : Nat), s.heap.NoLimit → s.heap.IsGen a g → s.heap.get? S = some (lstObj #[.int z t] c) → Susp G ⟨[S], GhS S, ThS, Qe⟩ σ0 A.in1 g n s → codeAny (model G.prog G.w) A (.builtin "sum.loop" ⟨[.ref a, .ref S, rawInt 0, rawInt 0], []⟩) R s := by
  intro n
  induction n using Nat.strongRecOn with
  | ind n ih =>
    intro s z t c hl hg hS0 hS
    refine codeAny_builtin F.entry_sum_loop ?_
    rw [Around.under_plainId F.plain_sum_loop _]
    show wpAny _ A.in1 (seqItems? (.ref S) >>= _) _ _ s
    refine wpAny_bind (wpAny_seqItems hS0 rfl ?_)
    show wpAny _ A.in1 (tryCatch (pyNext (.ref a)) _ >>= _) _ _ s
    have hS0' := hS0
    refine wpAny_bind (wpAny_tryCatch ?_)
    refine gx_next (A := A.in1) hh hd hl hg hS (fun ys x v pl H s1 h1 h2 h3 h4 h5 h6 h8 h7 => ?_) fun s1 hp => ?_
    · obtain ⟨t', c', rfl⟩ := h4
      have e1 : s1.heap.get? S = some (lstObj #[.int (vsum ys) t'] c') := (h3.at_ _ (List.mem_singleton.mpr rfl)).1
      have e2 := e1.symm.trans ((h8 S (List.mem_singleton.mpr rfl)).trans hS0)
      obtain ⟨j, rfl, ⟨f1, f2⟩, f3, f4⟩ := h6
      obtain ⟨tv, rfl⟩ := (show ∃ t, v = Value.int j t from h2)
      have ez : z = vsum ys := by
        have e3 : (#[Value.int (vsum ys) t'] : Array Value) = #[.int z t] := by
          have := congrArg Obj.data (Option.some.inj e2)
          injection this
        have e4 := congrArg Array.toList e3
        simp only [List.cons.injEq, Value.int.injEq, and_true] at e4
        exact e4.1.symm
      subst ez
      have hc : ((decide (-(2 ^ 63) ≤ j) && decide (j < 2 ^ 63)) && (decide (-(2 ^ 63) ≤ vsum ys + j) && decide (vsum ys + j < 2 ^ 63))) = true := by
        simp only [Bool.and_eq_true, decide_eq_true_eq]
        exact ⟨⟨f1, f2⟩, f3, f4⟩
      show wpAny _ A.in1 (if (_ : Bool) = true then (mkInt (vsum ys + j) >>= _) else _) _ _ _
      split
      · refine wpAny_bind (wpAny_mkInt ?_)
        show wpAny _ A.in1 (updateSeq S (fun _ => #[.int (vsum ys + j) s1.toks]) >>= _) _ _ _
        refine wpAny_bind ?_
        refine wpAny_updateSeq e1 rfl (wpAny_pure ⟨plainId_quiet F.plain_sum_loop _, ?_⟩)
        have keep3 : ∀ b o, b ≠ S → s1.heap.get? b = some o → (s1.heap.update S (Obj.mapSeq (fun _ => #[.int (vsum ys + j) s1.toks]))).get? b = some o := fun b o hbS e => (Heap.get?_update_other _ _ (Ne.symm hbS)).trans e
        obtain ⟨c2, hSn⟩ : ∃ c2, (s1.heap.update S (Obj.mapSeq (fun _ => #[.int (vsum ys + j) s1.toks]))).get? S = some (lstObj #[.int (vsum ys + j) s1.toks] c2) := ⟨_, Heap.get?_update_self _ e1 rfl⟩
        obtain ⟨m, hm, hS2⟩ := h7 { s1 with heap := s1.heap.update S (Obj.mapSeq (fun _ => #[.int (vsum ys + j) s1.toks])), toks := s1.toks + 1 } [(S, lstObj #[.int (vsum ys + j) s1.toks] c2)] ⟨rfl, h5.bare, fun b o hb e => keep3 b o (fun z => hb (by rw [z]; exact List.mem_singleton.mpr rfl)) e⟩ rfl
          ⟨rfl, fun p hp => by rw [List.mem_singleton.mp hp]; exact ⟨hSn, fun v q => by cases q⟩⟩ ⟨s1.toks, c2, by rw [vsum_append]; simp [vsum]⟩
        refine ih m (by omega) _ (vsum ys + j) s1.toks c2 ?_ ?_ hSn hS2
        · obtain ⟨mc, hns, hnn⟩ := h5.nolimit
          exact ⟨mc, hns.at' fun o e => keep3 _ o (Ne.symm hSc) e, hnn⟩
        · exact hgo _ (keep3 a go (Ne.symm hSa) (h5.pin (a, go) (List.mem_append_left _ hpa)).1)
      · rename_i hneg
        exact absurd hc hneg
    · obtain ⟨ys, pl, H, q1, q2, ⟨t', c', rfl⟩, q4, q5, q6⟩ := hp
      have e1 : s1.heap.get? S = some (lstObj #[.int (vsum ys) t'] c') := (q2.at_ _ (List.mem_singleton.mpr rfl)).1
      have e2 := e1.symm.trans ((q6 S (List.mem_singleton.mpr rfl)).trans hS0)
      have ez : z = vsum ys := by
        have e3 : (#[Value.int (vsum ys) t'] : Array Value) = #[.int z t] := by
          have := congrArg Obj.data (Option.some.inj e2)
          injection this
        have e4 := congrArg Array.toList e3
        simp only [List.cons.injEq, Value.int.injEq, and_true] at e4
        exact e4.1.symm
      subst ez
      exact wpAny_pure (hend s1 ys t _ H q4 q5)
def tSumG (tg : TGx) : TE := fun σ H Q => tg σ H ThS fun ys H1 => Q (.int (vsum ys)) H1
theorem pe_sumG (h : PGx X k e tg) (hr : Room (k + 4) X.A) (hg : Gl X "sum") (hm : X.mg "sum" = none)
    (he : starEach [e] X.env = (false, eval e X.env) :: starEach [] X.env := by rfl) : PE X (.Call (.Name "sum" p) [e] [] pos) (tSumG tg) := by
  refine ⟨fun pins s σ H Q I hq => ?_⟩
  refine wpAny_Call_Name_kw (ld_blt I hg hm boot_sum' ?_)
  refine PyProof.Rows.callWith_builtin1 ?_ he (by rfl)
  rw [he]
  show wpAny _ _ (spliced ((false, eval e X.env) :: backTo pos (starEach [] X.env))) _ _ s
  refine Calls.spliced_cons (thn (h.run pins s σ H _ _ I hq) fun u s1 hG => ?_)
  refine Calls.spliced_nil ?_
  obtain ⟨a, g, c, go, sB, HB, N', cenv, fp, σ0, rfl, I1, hex, ha1, ha2, hgo, hat, hgs, hos, hb, hkp, run⟩ := hG
  have hsB : sB.heap.NoLimit := I1.nolimit
  have hcl : cStatics < sB.heap.objs.size := let ⟨_, hn, _⟩ := hsB; hn.lt
  have hlim : s1.heap.NoLimit := hsB.keeps hkp
  refine call_function_tree F.kind_sum F.plain_sum F.entry_sum (F.args_sum1 _) ?_
  unfold Builtin.«sum»
  simp only [List.length_cons, List.length_nil]
  rw [if_neg (by decide)]
  refine wpAny_bind (wpAny_of_eq (show Builtin.Builtins.bindParams "sum" ["start"] 0 { } = pure [none] from rfl) ?_)
  refine wpAny_bind (wpAny_pyIter_gen (hgo _ hat) ?_)
  refine wpAny_bind (wpAny_mkInt ?_)
  refine wpAny_bind (wpAny_pure ?_)
  simp only [List.forIn_cons, List.forIn_nil]
  refine wpAny_bind (wpAny_bind (wpAny_bind (wpAny_isInstance (T := "int") (b := false) (typeIs_int _ _ _) PySem.sub_int_str ?_)))
  simp only [Bool.false_eq_true, if_false]
  refine wpAny_pure (wpAny_bind (wpAny_bind (wpAny_isInstance (T := "int") (b := false) (typeIs_int _ _ _) PySem.sub_int_bytes ?_)))
  simp only [Bool.false_eq_true, if_false]
  refine wpAny_pure (wpAny_bind (wpAny_bind (wpAny_isInstance (T := "int") (b := false) (typeIs_int _ _ _) PySem.sub_int_bytearray ?_)))
  simp only [Bool.false_eq_true, if_false]
  refine wpAny_pure (wpAny_pure ?_)
  refine wpAny_bind (wpAny_newObj_type ?_)
  have k1 : ∀ (o : Obj) b u, s1.heap.get? b = some u → (s1.heap.push o).get? b = some u := fun o b u e => Heap.get?_push_of_some _ e
  have hroom : Room (k + 1) X.A.in1.in1 := ⟨hr.hd, by have := hr.dp; show X.A.depth + 3 * (k + 1) + 5 < _; omega, by have := hr.un; show X.A.units + 1 + 1 + 16 * (k + 1) + 200 < _; omega⟩
  have hS0 : ∀ t, (s1.heap.push { cls := .type "list", data := .seq ([Value.int 0 t] : List Value).toArray }).get? s1.heap.objs.size = some (lstObj #[.int (vsum []) t] 0) := fun t => Heap.get?_push_size _ rfl
  refine wpAny_pure ⟨plainId_quiet F.plain_sum_loop _, ?_⟩
  refine drainS (G := gcx X sB HB N' cenv fp (X.A.in1.in1.deeper cenv) [(a, go)]) (Qe := fun ys H1 => Q (V.int (vsum ys)) H1) (σ0 := σ0) (A := X.A) (go := go) hr.hd (by have := hr.dp; show X.A.depth < _; omega) (List.mem_singleton.mpr rfl) hgo (Nat.ne_of_gt ha2) (Nat.ne_of_gt (Nat.lt_trans hcl (Nat.lt_trans ha1 ha2)))
    (fun s' ys t pl H1 q1 q2 => ?_) sizeLine _ (vsum []) s1.toks 0 ?_ ?_ ?_ ?_
  · exact ⟨.int (vsum ys), H1, inv_back I1 hex q1, ⟨t, rfl⟩, q2⟩
  · exact hlim.keeps (k1 _)
  · exact hgo _ (k1 _ _ _ hat)
  · exact hS0 _
  · refine susp_of hgs (run X.A.in1.in1 _ [s1.heap.objs.size] (GhS s1.heap.objs.size) _ hroom I.ok.frames (fun b hb => by rw [List.mem_singleton.mp hb]; exact Nat.le_refl _) (k1 _) hos (allBare_setGen (s := { s1 with heap := _ }) hb rfl) ?_ ⟨s1.toks, 0, rfl⟩)
    exact ⟨rfl, fun p hp => by rw [List.mem_singleton.mp hp]; exact ⟨hS0 _, fun v q => by cases q⟩⟩
end

/-! ### any, all -/
theorem drain1 {G : Cx} {nm : String} {bb : Bool} {Th : List V → V → Hp → Prop} {Qe : List V → Hp → Prop} {σ0 : L2.St} {A : Around} {a : Addr} {g : Nat} {go : Obj} {R : Result → Shared → Prop} (hh : A.handled = none) (hd : A.depth < recursionLimit) (hpa : (a, go) ∈ G.pn) (hgo : ∀ h : Heap, h.get? a = some go → h.IsGen a g)
    (hTh : ∀ ys x H, Th ys x H → ∃ b, x = .bl b)
    (step : ∀ (s : Shared) (R' : Result → Shared → Prop), wpAny (model G.prog G.w) A.in1 (pyNext (.ref a)) (fun r s1 => match r with
        | none => R' (.ok (.ret (.bool (!bb)))) s1
        | some v => ∃ b, v = .bool b ∧ if b = bb then R' (.ok (.ret (.bool bb))) s1 else codeAny (model G.prog G.w) A (.builtin nm ⟨[.ref a], []⟩) R' s1) (fun e s1 => R' (.error e) s1) s → codeAny (model G.prog G.w) A (.builtin nm ⟨[.ref a], []⟩) R' s)
    (hend : ∀ s' ys pl H, Inv G pl σ0 H s' → Qe ys H → (∀ y ∈ ys, y ≠ V.bl bb) → R (.ok (.ret (.bool (!bb)))) s') (hyes : ∀ s' ys pl H, Inv G pl σ0 H s' → Th ys (.bl bb) H → R (.ok (.ret (.bool bb))) s') :
    ∀ (n : Nat) (s : Shared), s.heap.NoLimit → s.heap.IsGen a g → Susp G ⟨[], fun ys pl => pl = [] ∧ ∀ y ∈ ys, y ≠ V.bl bb, Th, Qe⟩ σ0 A.in1 g n s → codeAny (model G.prog G.w) A (.builtin nm ⟨[.ref a], []⟩) R s := by
  intro n
  induction n using Nat.strongRecOn with
  | ind n ih =>
    intro s hl hg hS
    refine step s R (gx_next (A := A.in1) hh hd hl hg hS (fun ys x v pl H s1 h1 h2 h3 h4 h5 h6 h8 h7 => ?_) fun s1 hp => ?_)
    · obtain ⟨b, rfl⟩ := hTh _ _ _ h6
      have ev : v = Value.bool b := h2
      refine ⟨b, ev, ?_⟩
      by_cases hb : b = bb
      · rw [if_pos hb]
        subst hb
        exact hyes s1 ys pl H h5 h6
      · rw [if_neg hb]
        obtain ⟨m, hm, hS2⟩ := h7 s1 [] ⟨rfl, h5.bare, fun _ _ _ e => e⟩ rfl ⟨rfl, fun p hp => absurd hp (by simp)⟩ ⟨rfl, fun y hy => by
          rcases List.mem_append.mp hy with z | z
          · exact h4.2 y z
          · rw [List.mem_singleton.mp z]
            exact fun q => hb (V.bl.inj q)⟩
        exact ih m (by omega) s1 h5.nolimit (hgo _ (h5.pin (a, go) (List.mem_append_left _ hpa)).1) hS2
    · obtain ⟨ys, pl, H, q1, q2, q3, q4, q5, q6⟩ := hp
      exact hend s1 ys pl H q4 q5 q3.2
theorem step_any {prog : Program} {w : World} {A : Around} {a : Addr} (s : Shared) (R' : Result → Shared → Prop) (h : wpAny (model prog w) A.in1 (pyNext (.ref a)) (fun r s1 => match r with
        | none => R' (.ok (.ret (.bool (!true)))) s1
        | some v => ∃ b, v = .bool b ∧ if b = true then R' (.ok (.ret (.bool true))) s1 else codeAny (model prog w) A (.builtin "any.loop" ⟨[.ref a], []⟩) R' s1) (fun e s1 => R' (.error e) s1) s) : codeAny (model prog w) A (.builtin "any.loop" ⟨[.ref a], []⟩) R' s := by
  refine codeAny_builtin F.entry_any_loop ?_
  rw [Around.under_plainId F.plain_any_loop _]
  show wpAny _ A.in1 (pyNext (.ref a) >>= _) _ _ s
  refine wpAny_bind (thn h fun r s1 h1 => ?_)
  cases r with
  | none => exact wpAny_bind (wpAny_rule (wpAny_pure h1))
  | some v =>
    obtain ⟨b, rfl, h1⟩ := h1
    refine wpAny_bind (wpAny_holding (wpAny_truthy_bool ?_))
    refine wpAny_bind (wpAny_letGo ?_)
    cases b with
    | true =>
      simp only [if_true]
      exact wpAny_bind (wpAny_rule (wpAny_pure h1))
    | false =>
      simp only [Bool.false_eq_true, if_false]
      exact wpAny_pure ⟨plainId_quiet F.plain_any_loop _, h1⟩
theorem step_all {prog : Program} {w : World} {A : Around} {a : Addr} (s : Shared) (R' : Result → Shared → Prop) (h : wpAny (model prog w) A.in1 (pyNext (.ref a)) (fun r s1 => match r with
        | none => R' (.ok (.ret (.bool (!false)))) s1
        | some v => ∃ b, v = .bool b ∧ if b = false then R' (.ok (.ret (.bool false))) s1 else codeAny (model prog w) A (.builtin "all.loop" ⟨[.ref a], []⟩) R' s1) (fun e s1 => R' (.error e) s1) s) : codeAny (model prog w) A (.builtin "all.loop" ⟨[.ref a], []⟩) R' s := by
  refine codeAny_builtin F.entry_all_loop ?_
  rw [Around.under_plainId F.plain_all_loop _]
  show wpAny _ A.in1 (pyNext (.ref a) >>= _) _ _ s
  refine wpAny_bind (thn h fun r s1 h1 => ?_)
  cases r with
  | none => exact wpAny_bind (wpAny_rule (wpAny_pure h1))
  | some v =>
    obtain ⟨b, rfl, h1⟩ := h1
    refine wpAny_bind (wpAny_holding (wpAny_truthy_bool ?_))
    refine wpAny_bind (wpAny_letGo ?_)
    cases b with
    | false =>
      simp only [Bool.false_eq_true, if_false]
      exact wpAny_bind (wpAny_rule (wpAny_pure h1))
    | true =>
      simp only [if_true]
      exact wpAny_pure ⟨plainId_quiet F.plain_all_loop _, h1⟩
def tAnyG (tg : TGx) : TE := fun σ H Q => tg σ H (fun _ x H1 => ∃ b, x = .bl b ∧ (b = true → Q (.bl true) H1)) fun ys H1 => (∀ y ∈ ys, y ≠ V.bl true) → Q (.bl false) H1
def tAllG (tg : TGx) : TE := fun σ H Q => tg σ H (fun _ x H1 => ∃ b, x = .bl b ∧ (b = false → Q (.bl false) H1)) fun ys H1 => (∀ y ∈ ys, y ≠ V.bl false) → Q (.bl true) H1
section
variable {X : Cx} {p pos : Pos} {e : Expr} {tg : TGx} {k : Nat}
theorem pe_anyG (h : PGx X k e tg) (hr : Room (k + 4) X.A) (hg : Gl X "any") (hm : X.mg "any" = none)
    (he : starEach [e] X.env = (false, eval e X.env) :: starEach [] X.env := by rfl) : PE X (.Call (.Name "any" p) [e] [] pos) (tAnyG tg) := by
  refine ⟨fun pins s σ H Q I hq => ?_⟩
  refine wpAny_Call_Name_kw (ld_blt I hg hm boot_any' ?_)
  refine PyProof.Rows.callWith_builtin1 ?_ he (by rfl)
  rw [he]
  show wpAny _ _ (spliced ((false, eval e X.env) :: backTo pos (starEach [] X.env))) _ _ s
  refine Calls.spliced_cons (thn (h.run pins s σ H _ _ I hq) fun u s1 hG => ?_)
  refine Calls.spliced_nil ?_
  obtain ⟨a, g, c, go, sB, HB, N', cenv, fp, σ0, rfl, I1, hex, ha1, ha2, hgo, hat, hgs, hos, hb, hkp, run⟩ := hG
  refine call_function_tree F.kind_any F.plain_any F.entry_any (F.args_any1 _) ?_
  unfold Builtin.«any»
  refine wpAny_bind (m := oneArg "any" _) (wpAny_pure ?_)
  refine wpAny_bind (wpAny_pyIter_gen (hgo _ hat) ?_)
  have hroom : Room (k + 1) X.A.in1.in1 := ⟨hr.hd, by have := hr.dp; show X.A.depth + 3 * (k + 1) + 5 < _; omega, by have := hr.un; show X.A.units + 1 + 1 + 16 * (k + 1) + 200 < _; omega⟩
  refine wpAny_pure ⟨plainId_quiet F.plain_any_loop _, ?_⟩
  refine drain1 (G := gcx X sB HB N' cenv fp (X.A.in1.in1.deeper cenv) [(a, go)]) (bb := true) (nm := "any.loop") (Th := fun _ x H1 => ∃ b, x = .bl b ∧ (b = true → Q (.bl true) H1)) (Qe := fun ys H1 => (∀ y ∈ ys, y ≠ V.bl true) → Q (.bl false) H1) (σ0 := σ0) (A := X.A) (go := go) hr.hd (by have := hr.dp; show X.A.depth < _; omega) (List.mem_singleton.mpr rfl) hgo
    (fun _ _ _ ⟨b, e, _⟩ => ⟨b, e⟩) step_any (fun s' ys pl H1 q1 q2 q3 => ?_) (fun s' ys pl H1 q1 q2 => ?_) sizeLine _ (I1.nolimit.keeps hkp) (hgo _ hat) (susp_of hgs (run X.A.in1.in1 _ [] (fun ys pl => pl = [] ∧ ∀ y ∈ ys, y ≠ V.bl true) [] hroom I.ok.frames (fun b hb => absurd hb (by simp)) (fun _ _ e => e) hos (allBare_setGen hb rfl) ⟨rfl, fun p hp => absurd hp (by simp)⟩ ⟨rfl, fun y hy => absurd hy (by simp)⟩))
  · exact ⟨.bl false, H1, inv_back I1 hex q1, rfl, q2 q3⟩
  · obtain ⟨b, e, q2⟩ := q2
    cases e
    exact ⟨.bl true, H1, inv_back I1 hex q1, rfl, q2 rfl⟩
theorem pe_allG (h : PGx X k e tg) (hr : Room (k + 4) X.A) (hg : Gl X "all") (hm : X.mg "all" = none)
    (he : starEach [e] X.env = (false, eval e X.env) :: starEach [] X.env := by rfl) : PE X (.Call (.Name "all" p) [e] [] pos) (tAllG tg) := by
  refine ⟨fun pins s σ H Q I hq => ?_⟩
  refine wpAny_Call_Name_kw (ld_blt I hg hm boot_all' ?_)
  refine PyProof.Rows.callWith_builtin1 ?_ he (by rfl)
  rw [he]
  show wpAny _ _ (spliced ((false, eval e X.env) :: backTo pos (starEach [] X.env))) _ _ s
  refine Calls.spliced_cons (thn (h.run pins s σ H _ _ I hq) fun u s1 hG => ?_)
  refine Calls.spliced_nil ?_
  obtain ⟨a, g, c, go, sB, HB, N', cenv, fp, σ0, rfl, I1, hex, ha1, ha2, hgo, hat, hgs, hos, hb, hkp, run⟩ := hG
  refine call_function_tree F.kind_all F.plain_all F.entry_all (F.args_all1 _) ?_
  unfold Builtin.«all»
  refine wpAny_bind (m := oneArg "all" _) (wpAny_pure ?_)
  refine wpAny_bind (wpAny_pyIter_gen (hgo _ hat) ?_)
  have hroom : Room (k + 1) X.A.in1.in1 := ⟨hr.hd, by have := hr.dp; show X.A.depth + 3 * (k + 1) + 5 < _; omega, by have := hr.un; show X.A.units + 1 + 1 + 16 * (k + 1) + 200 < _; omega⟩
  refine wpAny_pure ⟨plainId_quiet F.plain_all_loop _, ?_⟩
  refine drain1 (G := gcx X sB HB N' cenv fp (X.A.in1.in1.deeper cenv) [(a, go)]) (bb := false) (nm := "all.loop") (Th := fun _ x H1 => ∃ b, x = .bl b ∧ (b = false → Q (.bl false) H1)) (Qe := fun ys H1 => (∀ y ∈ ys, y ≠ V.bl false) → Q (.bl true) H1) (σ0 := σ0) (A := X.A) (go := go) hr.hd (by have := hr.dp; show X.A.depth < _; omega) (List.mem_singleton.mpr rfl) hgo
    (fun _ _ _ ⟨b, e, _⟩ => ⟨b, e⟩) step_all (fun s' ys pl H1 q1 q2 q3 => ?_) (fun s' ys pl H1 q1 q2 => ?_) sizeLine _ (I1.nolimit.keeps hkp) (hgo _ hat) (susp_of hgs (run X.A.in1.in1 _ [] (fun ys pl => pl = [] ∧ ∀ y ∈ ys, y ≠ V.bl false) [] hroom I.ok.frames (fun b hb => absurd hb (by simp)) (fun _ _ e => e) hos (allBare_setGen hb rfl) ⟨rfl, fun p hp => absurd hp (by simp)⟩ ⟨rfl, fun y hy => absurd hy (by simp)⟩))
  · exact ⟨.bl true, H1, inv_back I1 hex q1, rfl, q2 q3⟩
  · obtain ⟨b, e, q2⟩ := q2
    cases e
    exact ⟨.bl false, H1, inv_back I1 hex q1, rfl, q2 rfl⟩
end
end GX
set_option Elab.async false
set_option linter.all false
set_option maxRecDepth 100000
set_option maxHeartbeats 4000000
/-! What all laws of this program share. -/
namespace KC
open PySem PySem.Spec PyProof.Rows L2 GX Evl

/-- a def of the top, called by its name -/
structure Cal (P : Program) (w : World) (K : PySem.W.Frag) (mg : Str → Option Value) (base : Heap) (nm : Str) (k : Nat) (ps : List Str) (sp : Sp) : Prop where
  out : ∃ f fd, mg nm = some (.ref f) ∧ PySem.W.keepIn K (.ref f) = true ∧ Binds K fd ps [] ∧ FnOk P w K mg base CX0 k f fd ps sp
theorem pe_callC {X : Cx} {nm : Str} {k : Nat} {ps : List Str} {sp : Sp} {p pos : Pos} {e : Expr} {es : List Expr} {t : TA} (C : Cal X.prog X.w X.K X.mg X.base nm k ps sp) (hr : Room k X.A) (hg : Gl X nm) (ha : PA X (e :: es) t)
    (hdb : (nm == ("__debug__" : Str)) = false := by decide) (he : starEach (e :: es) X.env = (false, eval e X.env) :: starEach es X.env := by rfl) (hpl : (backTo pos (starEach es X.env)).any (·.1) = false := by rfl) :
    PE X (.Call (.Name nm p) (e :: es) [] pos) (tCall sp [] E0 t) := by
  obtain ⟨f, fd, h1, h2, h3, h4⟩ := C.out
  exact pe_call h4 hr hg h1 h2 h3 .nil pass0 ha hdb he hpl

/-- the builtins that no def of the text hides -/
structure Bs (mg : Str → Option Value) : Prop where
  len : mg "len" = none
  int : mg "int" = none
  min : mg "min" = none
  max : mg "max" = none
  list : mg "list" = none
  sorted : mg "sorted" = none
  sum : mg "sum" = none
  range : mg "range" = none
  enumerate : mg "enumerate" = none
  zip : mg "zip" = none
  any : mg "any" = none
  isinstance : mg "isinstance" = none
  bool : mg "bool" = none
  reversed : mg "reversed" = none

/-- a def whose code object is known (its table of codes is used) -/
structure FunT (K : PySem.W.Frag) (x qual : Str) (st : Stmt) (f : Addr) (fd : FuncData) (c : Addr) : Prop where
  ex : ∃ (oc : Value) (od : Option Addr) (kV doc pm : Value) (an : Option Addr) (ct : Value) (osl : Array (Option Value)),
    fd = PySem.W.fnOf x qual (defArgs st) (defBody st) (defScope st) .none kV doc pm an (.ref c) ct ∧ K.lookup f = some ⟨oc, od, .func fd, osl⟩ ∧ PySem.W.codeIn K (.ref c) qual = true
  kp : PySem.W.keepIn K (.ref f) = true
theorem FunT.fn {K : PySem.W.Frag} {x qual : Str} {st : Stmt} {f c : Addr} {fd : FuncData} (F : FunT K x qual st f fd c) : Fun K x qual st f fd := by
  obtain ⟨oc, od, kV, doc, pm, an, ct, osl, h1, h2, h3⟩ := F.ex
  exact ⟨⟨oc, od, kV, doc, pm, an, .ref c, ct, osl, h1, h2, h3⟩, F.kp⟩
section
variable {P : Program} {w : World} {K : PySem.W.Frag} {mg : Str → Option Value} {base : Heap}
theorem FunT.ok {x qual : Str} {st : Stmt} {f c : Addr} {fd : FuncData} {N ps : List Str} {k : Nat} {sp : Sp} (F : FunT K x qual st f fd c) (S : FnScope N ps (defScope st)) (len : ∀ vs H Q E, sp vs H Q E → vs.length = ps.length)
    (hbody : ∀ (A : Around) (outer : List Env) (s : Shared) (H : Hp) (vs : List V) (Q : VK) (E : XK), Room k (A.deeper (envOfC qual (defScope st) s.heap.objs.size f (.ref c))) → sp vs H Q E →
      ∃ t, PSs (cxOf CX0 P w K mg base N qual (defScope st) f (.ref c) A outer s H E).nox (defBody st) t ∧ t { nx := fun _ H' => Q .non H', rt := Q } (start N vs) H) : FnOk P w K mg base CX0 (k + 1) f fd ps sp := by
  obtain ⟨oc, od, kV, doc, pm, an, ct, osl, rfl, lk, hcd⟩ := F.ex
  refine fn_of lk hcd S len fun A outer s H vs Q E hr hsp => ?_
  obtain ⟨t, h, q⟩ := hbody A outer s H vs Q E hr hsp
  exact ⟨t, h.nox, q⟩
theorem cal_of {nm : Str} {st : Stmt} {f : Addr} {fd : FuncData} {k : Nat} {ps : List Str} {sp : Sp} (F : Fun K nm nm st f fd) (g : mg nm = some (.ref f)) (b : Binds K fd ps []) (ok : FnOk P w K mg base CX0 k f fd ps sp) : Cal P w K mg base nm k ps sp :=
  ⟨f, fd, g, F.kp, b, ok⟩
end

/-! ### heaps -/
theorem ex_of_new {H H' : Hp} {p : Addr} {o : HO} (e : Ex H H') (h : H' p = none) : Ex H (upd H' p o) := e.trans (Ex.new h)
mutual
theorem Dp.ext {K : PySem.W.Frag} {H H' : Hp} (e : Ex H H') : ∀ (d : PyData) (v : V), Dp K H v d → Dp K H' v d
  | .none, _, h => by cases h; exact .non
  | .bool b, _, h => by cases h; exact .bl b
  | .int i, _, h => by cases h; exact .int i
  | .str x, _, h => by cases h; exact .str x
  | .list ds, _, h => by
    cases h with
    | lst h1 h2 => exact .lst (ex_l e h1) (DpAll.ext e ds _ h2)
  | .tuple ds, _, h => by
    cases h with
    | tup h1 h2 => exact .tup (ex_t e h1) (DpAll.ext e ds _ h2)
  | .dict _, _, h => by cases h
theorem DpAll.ext {K : PySem.W.Frag} {H H' : Hp} (e : Ex H H') : ∀ (ds : List PyData) (vs : List V), DpAll K H vs ds → DpAll K H' vs ds
  | [], _, h => by cases h; exact .nil
  | d :: ds, _, h => by
    cases h with
    | cons h1 h2 => exact .cons (Dp.ext e d _ h1) (DpAll.ext e ds _ h2)
end
theorem DpAll.app {K : PySem.W.Frag} {H : Hp} : ∀ {vs : List V} {ds : List PyData} {v : V} {d : PyData}, DpAll K H vs ds → Dp K H v d → DpAll K H (vs ++ [v]) (ds ++ [d])
  | [], _, _, _, h, h2 => by cases h; exact .cons h2 .nil
  | _ :: _, _, _, _, h, h2 => by
    cases h with
    | cons a b => exact .cons a (DpAll.app b h2)
theorem DpAll.len {K : PySem.W.Frag} {H : Hp} : ∀ {vs : List V} {ds : List PyData}, DpAll K H vs ds → vs.length = ds.length
  | [], _, h => by cases h; rfl
  | _ :: _, _, h => by
    cases h with
    | cons a b => exact congrArg (· + 1) (DpAll.len b)
theorem dpAll_ints {K : PySem.W.Frag} {H : Hp} : ∀ ns : List Int, DpAll K H (ns.map V.int) (ns.map PyData.int)
  | [] => .nil
  | n :: r => .cons (.int n) (dpAll_ints r)
theorem eqvAll_ints : ∀ xs ys : List Int, PyData.eqvAll (xs.map PyData.int) (ys.map PyData.int) = decide (xs = ys)
  | [], [] => by simp [PyData.eqvAll]
  | [], _ :: _ => by simp [PyData.eqvAll]
  | _ :: _, [] => by simp [PyData.eqvAll]
  | x :: xs, y :: ys => by
    simp only [List.map_cons, PyData.eqvAll, PyData.eqv, eqvAll_ints xs ys]
    by_cases h1 : x = y <;> by_cases h2 : xs = ys <;> simp [h1, h2]
theorem int_at {ns : List Int} {i : Nat} (h : i < ns.length) : (ns.map V.int)[i]? = some (.int (ns.getD i 0)) := by
  rw [List.getElem?_map, List.getElem?_eq_getElem h, List.getD_eq_getElem?_getD, List.getElem?_eq_getElem h]
  rfl
theorem atI_at {ns : List Int} {z : Int} {i : Nat} (e : z = (i : Int)) (h : i < ns.length) : atI (ns.map V.int) z = some (.int (ns.getD i 0)) := at_of e (int_at h)

/-! ### more readings, in short -/
section
variable {K : PySem.W.Frag} {σ : L2.St} {H H' : Hp} {ta tb te tx : TE} {t u : TT} {x y z v : V} {D : Ends} {tu tw tz : TS} {g : TG}
theorem rv_mod {i j : Int} (h : 0 < j) : RV (rI (fun _ j => 0 < j) fun i j => .int (i % j)) (.int i) (.int j) H (.int (i % j)) := rv_I h
theorem rv_div {i j : Int} (h : 0 < j) (h2 : j < 1073741824) : RV (rI CDiv fun i j => .int (i / j)) (.int i) (.int j) H (.int (i / j)) := rv_I ⟨h, h2⟩
theorem rv_mul {i j : Int} (h : -(2 ^ 64) < i ∧ i < 2 ^ 64) : RV (rI CMul fun i j => .int (i * j)) (.int i) (.int j) H (.int (i * j)) := rv_I (.inl h)
theorem rc_val {r : List V → Hp → VK → Prop} {vs : List V} (h : ∀ H1, Ex H H1 → ∀ Q : VK, Q z H1 → r vs H1 Q) : RC r vs H z := fun H1 e Q q => h H1 e Q (q H1 (Ex.refl H1))
theorem rc_int {i : Int} : RC (fun xs H Q => (∃ i, xs = [.int i] ∧ Q (.int i) H) ∨ ∃ k, xs = [.bl k] ∧ Q (.int (if k then 1 else 0)) H) [.int i] H (.int i) := rc_val fun _ _ _ q => .inl ⟨i, rfl, q⟩
theorem rc_len {a : Addr} {xs : List V} {r : List V → Hp → VK → Prop} (h : ∀ H1, Ex H H1 → ∀ Q : VK, Q (.int (xs.length : Int)) H1 → r [.ref a] H1 Q) : RC r [.ref a] H (.int (xs.length : Int)) := rc_val h
theorem ea1 (h : Ev ta σ H x) : EvA (tCons ta tNil) σ H [x] := ea_cons h ea_nil
theorem ea2 (h : Ev ta σ H x) (h2 : Ev tb σ H y) : EvA (tCons ta (tCons tb tNil)) σ H [x, y] := ea_cons h (ea1 h2)
theorem ea3 {tc : TE} (h : Ev ta σ H x) (h2 : Ev tb σ H y) (h3 : Ev tc σ H z) : EvA (tCons ta (tCons tb (tCons tc tNil))) σ H [x, y, z] := ea_cons h (ea2 h2 h3)
end
end KC
set_option Elab.async false
set_option linter.all false
set_option maxRecDepth 100000
set_option maxHeartbeats 4000000
namespace KC
open PySem PySem.Spec PyProof.Rows L2 GX Evl

/-- it gives data d -/
def EvD (K : PySem.W.Frag) (te : TE) (σ : L2.St) (H : Hp) (d : PyData) : Prop := ∀ H1, Ex H H1 → ∀ Q : VK, (∀ v H2, Ex H1 H2 → Dp K H2 v d → Q v H2) → te σ H1 Q
def EvDA (K : PySem.W.Frag) (ta : TA) (σ : L2.St) (H : Hp) (ds : List PyData) : Prop := ∀ H1, Ex H H1 → ∀ Q : List V → Hp → Prop, (∀ vs H2, Ex H1 H2 → DpAll K H2 vs ds → Q vs H2) → ta σ H1 Q
def RetD (K : PySem.W.Frag) (d : PyData) (H : Hp) (Q : VK) : Prop := ∀ v H2, Ex H H2 → Dp K H2 v d → Q v H2
def SpD (K : PySem.W.Frag) (sp : Sp) (vs : List V) (H : Hp) (d : PyData) : Prop := ∀ H1, Ex H H1 → ∀ Q : VK, (∀ v H2, Ex H1 H2 → Dp K H2 v d → Q v H2) → ∀ E : XK, sp vs H1 Q E
mutual
def noList : PyData → Bool
  | .list _ => false
  | .dict _ => false
  | .tuple ds => noListAll ds
  | _ => true
def noListAll : List PyData → Bool
  | [] => true
  | d :: r => noList d && noListAll r
end
theorem sqt_put {K : PySem.W.Frag} {H : Hp} {l a : Addr} {zs ys xs : List V} (h : SqT K H a xs) (hl : H l = some (.lst zs)) : SqT K (upd H l (.lst ys)) a xs := by
  rcases h with (h | ⟨o, h⟩) | h
  · exact .inl (.inl (by rw [upd_ne (fun e => by rw [e, hl] at h; cases h)]; exact h))
  · exact .inl (.inr ⟨o, by rw [upd_ne (fun e => by rw [e, hl] at h; cases h)]; exact h⟩)
  · exact .inr h
theorem sql_put {K : PySem.W.Frag} {H : Hp} {l a : Addr} {ys xs : List V} (h : SqL K H a xs) (hl : a ≠ l) : SqL K (upd H l (.lst ys)) a xs := by
  rcases h with (h | ⟨o, h⟩) | h
  · exact .inl (.inl (by rw [upd_ne hl]; exact h))
  · exact .inl (.inr ⟨o, by rw [upd_ne hl]; exact h⟩)
  · exact .inr h
mutual
theorem Dp.put {K : PySem.W.Frag} {H : Hp} {l : Addr} {zs ys : List V} (hl : H l = some (.lst zs)) : ∀ (d : PyData) (v : V), noList d = true → Dp K H v d → Dp K (upd H l (.lst ys)) v d
  | .none, _, _, h => by cases h; exact .non
  | .bool b, _, _, h => by cases h; exact .bl b
  | .int i, _, _, h => by cases h; exact .int i
  | .str x, _, _, h => by cases h; exact .str x
  | .list _, _, z, _ => by simp [noList] at z
  | .tuple ds, _, z, h => by
    cases h with
    | tup h1 h2 => exact .tup (sqt_put h1 hl) (DpAll.put hl ds _ (by simpa [noList] using z) h2)
  | .dict _, _, _, h => by cases h
theorem DpAll.put {K : PySem.W.Frag} {H : Hp} {l : Addr} {zs ys : List V} (hl : H l = some (.lst zs)) : ∀ (ds : List PyData) (vs : List V), noListAll ds = true → DpAll K H vs ds → DpAll K (upd H l (.lst ys)) vs ds
  | [], _, _, h => by cases h; exact .nil
  | d :: ds, _, z, h => by
    cases h with
    | cons h1 h2 =>
      simp only [noListAll, Bool.and_eq_true] at z
      exact .cons (Dp.put hl d _ z.1 h1) (DpAll.put hl ds _ z.2 h2)
end
theorem noListAll_map {α : Type} {f : α → PyData} (hf : ∀ a, noList (f a) = true) : ∀ xs : List α, noListAll (xs.map f) = true
  | [] => rfl
  | a :: r => by simp [noListAll, hf a, noListAll_map hf r]

section
variable {K : PySem.W.Frag} {σ : L2.St} {H H' : Hp} {ta tb te tx : TE} {t u : TT} {x y z v : V} {D : Ends} {tu tw tz : TS} {g : TG} {d d2 : PyData} {ds : List PyData}
theorem EvD.mono (e : Ex H H') (h : EvD K te σ H d) : EvD K te σ H' d := fun H1 a Q q => h H1 (e.trans a) Q q
theorem ed_int {i : Int} (h : Ev te σ H (.int i)) : EvD K te σ H (.int i) := fun H1 e Q q => h H1 e Q fun H2 e2 => q _ H2 e2 (.int i)
theorem ed_non (h : Ev te σ H .non) : EvD K te σ H .none := fun H1 e Q q => h H1 e Q fun H2 e2 => q _ H2 e2 .non
theorem ed_bl {b : Bool} (h : Ev te σ H (.bl b)) : EvD K te σ H (.bool b) := fun H1 e Q q => h H1 e Q fun H2 e2 => q _ H2 e2 (.bl b)
theorem ed_at (h : Ev te σ H v) (hd : Dp K H v d) : EvD K te σ H d := fun H1 e Q q => h H1 e Q fun H2 e2 => q _ H2 e2 (Dp.ext (e.trans e2) _ _ hd)
theorem eda_nil : EvDA K tNil σ H [] := fun H1 _ Q q => q [] H1 (Ex.refl H1) .nil
theorem eda_cons {tr : TA} (h : EvD K te σ H d) (hr : EvDA K tr σ H ds) : EvDA K (tCons te tr) σ H (d :: ds) := fun H1 e Q q =>
  h H1 e _ fun v H2 e2 hv => hr H2 (e.trans e2) _ fun vs H3 e3 hvs => q _ H3 (e2.trans e3) (.cons (Dp.ext e3 _ _ hv) hvs)
theorem ed_tup {ta : TA} (h : EvDA K ta σ H ds) (hl : ds.length ≤ 100000) : EvD K (tTup ta) σ H (.tuple ds) := fun H1 e Q q =>
  h H1 e _ fun vs H2 e2 hvs => ⟨sz_of (by rw [DpAll.len hvs]; exact hl), fun p hp => q _ _ (e2.trans (Ex.new hp)) (.tup (.inl (.inl upd_same)) (DpAll.ext (Ex.new hp) _ _ hvs))⟩
theorem ed_lst {ta : TA} (h : EvDA K ta σ H ds) (hl : ds.length ≤ 100000) : EvD K (tLst ta) σ H (.list ds) := fun H1 e Q q =>
  h H1 e _ fun vs H2 e2 hvs => ⟨sz_of (by rw [DpAll.len hvs]; exact hl), fun p hp => q _ _ (e2.trans (Ex.new hp)) (.lst (.inl (.inl upd_same)) (DpAll.ext (Ex.new hp) _ _ hvs))⟩
theorem ed_call {sp : Sp} {dvs vs : List V} {E : XK} {ta : TA} (h : EvA ta σ H vs) (hs : SpD K sp (vs ++ dvs) H d) : EvD K (tCall sp dvs E ta) σ H d := fun H1 e Q q =>
  h H1 e _ fun H2 e2 => hs H2 (e.trans e2) Q (fun v H3 e3 hv => q v H3 (e2.trans e3) hv) E
/-- a list of ints as data -/
theorem ed_listI {ns : List Int} (h : EvL te σ H (ns.map V.int)) : EvD K te σ H (.list (ns.map PyData.int)) := fun H1 e Q q =>
  h H1 e Q fun p H2 _ e2 hp => q _ H2 e2 (.lst (.inl (.inl hp)) (dpAll_ints ns))
theorem dp_listI {l : Addr} {ns : List Int} (h : SqL K H l (ns.map V.int)) : Dp K H (.ref l) (.list (ns.map PyData.int)) := .lst h (dpAll_ints ns)
theorem s_retD (h : EvD K te σ H d) (k : ∀ v H1, Ex H H1 → Dp K H1 v d → D.rt v H1) : tRet te D σ H := h H (Ex.refl H) _ k
theorem s_asgD {i : Nat} (h : EvD K te σ H d) (k : ∀ v H1, Ex H H1 → Dp K H1 v d → D.nx (σ.set i (some v)) H1) : tAsg te (gName i) D σ H := h H (Ex.refl H) _ k
theorem q_asgD {i : Nat} (h : EvD K te σ H d) (k : ∀ v H1, Ex H H1 → Dp K H1 v d → tz D (σ.set i (some v)) H1) : tSeq (tAsg te (gName i)) tz D σ H := s_asgD (D := { D with nx := tz D }) h k
/-- xs.append(data) -/
theorem s_appD {l : Addr} {xs : List V} (hl : H l = some (.lst xs)) (ha : Ev ta σ H (.ref l)) (h : EvD K te σ H d) (hz : xs.length < 100000) (k : ∀ v H1, Ex H H1 → Dp K H1 v d → D.nx σ (upd H1 l (.lst (xs ++ [v])))) :
    tDrop (tBM K "list" rAppend ta (tCons te tNil)) D σ H := ha H (Ex.refl H) _ fun H1 e1 =>
  ⟨Or.inl ⟨rfl, xs, sq_of (e1 l _ hl)⟩, h H1 e1 _ fun v H2 e2 hv => ⟨l, xs, v, rfl, rfl, e2 l _ (e1 l _ hl), sz_lt hz, k v H2 (e1.trans e2) hv⟩⟩
/-- data equal, not equal -/
theorem ev_eqD (ha : EvD K ta σ H d) (hb : EvD K tb σ H d2) (h1 : SeqAt.shaped d = true) (h2 : SeqAt.shaped d2 = true) : Ev (tOp (rEqD K) ta tb) σ H (.bl (PyData.eqv d d2)) := fun H1 e Q q =>
  ha H1 e _ fun v H2 e2 hv => hb H2 (e.trans e2) _ fun u H3 e3 hu => ⟨d, d2, Dp.ext e3 _ _ hv, hu, h1, h2, q H3 (e2.trans e3)⟩
theorem ev_neD (ha : EvD K ta σ H d) (hb : EvD K tb σ H d2) (h1 : SeqAt.shaped d = true) (h2 : SeqAt.shaped d2 = true) : Ev (tOp (rNeD K) ta tb) σ H (.bl (!PyData.eqv d d2)) := fun H1 e Q q =>
  ha H1 e _ fun v H2 e2 hv => hb H2 (e.trans e2) _ fun u H3 e3 hu => ⟨d, d2, Dp.ext e3 _ _ hv, hu, h1, h2, q H3 (e2.trans e3)⟩
theorem el_cat {xs ys : List V} {b : Addr} (ha : EvL ta σ H xs) (hb : Ev tb σ H (.ref b)) (h : H b = some (.lst ys)) (hz : xs.length + ys.length ≤ 100000) : EvL (tOp rCat ta tb) σ H (xs ++ ys) := fun H1 e Q q =>
  ha H1 e _ fun p H2 np e2 hp => hb H2 (e.trans e2) _ fun H3 e3 => ⟨p, b, xs, ys, rfl, rfl, e3 p _ hp, ((e.trans e2).trans e3) b _ h, sz_of hz, fun p2 hp2 => q p2 _ (fresh_back (e2.trans e3) hp2) ((e2.trans e3).trans (Ex.new hp2)) upd_same⟩
theorem el_cat2 {xs ys : List V} {a b : Addr} (ha : Ev ta σ H (.ref a)) (h0 : H a = some (.lst xs)) (hb : Ev tb σ H (.ref b)) (h : H b = some (.lst ys)) (hz : xs.length + ys.length ≤ 100000) : EvL (tOp rCat ta tb) σ H (xs ++ ys) := fun H1 e Q q =>
  ha H1 e _ fun H2 e2 => hb H2 (e.trans e2) _ fun H3 e3 => ⟨a, b, xs, ys, rfl, rfl, ((e.trans e2).trans e3) a _ h0, ((e.trans e2).trans e3) b _ h, sz_of hz, fun p2 hp2 => q p2 _ (fresh_back (e2.trans e3) hp2) ((e2.trans e3).trans (Ex.new hp2)) upd_same⟩
theorem el_rep {xs : List V} {i : Int} (ha : EvL ta σ H xs) (hb : Ev tb σ H (.int i)) (h1 : 0 ≤ i ∧ i ≤ 10000) (hz : xs.length ≤ 10) : EvL (tOp rRep ta tb) σ H (List.replicate i.toNat xs).flatten := fun H1 e Q q =>
  ha H1 e _ fun p H2 np e2 hp => hb H2 (e.trans e2) _ fun H3 e3 => ⟨p, i, xs, rfl, rfl, e3 p _ hp, by omega, by omega, sz_of (Nat.le_trans (Nat.mul_le_mul hz (show i.toNat ≤ 10000 by omega)) (by decide)), fun p2 hp2 => q p2 _ (fresh_back (e2.trans e3) hp2) ((e2.trans e3).trans (Ex.new hp2)) upd_same⟩
theorem el_rev {xs : List V} {a : Addr} (ha : Ev ta σ H (.ref a)) (h : SqL K H a xs) : EvL (tRevL K ta) σ H xs.reverse := fun H1 e Q q =>
  ha H1 e _ fun H2 e2 => ⟨a, xs, rfl, ex_l (e.trans e2) h, fun p hp => q p _ (fresh_back e2 hp) (e2.trans (Ex.new hp)) upd_same⟩
theorem el_if {b : Bool} {xs : List V} (h : EvT t σ H b) (h1 : b = true → EvL ta σ H xs) (h2 : b = false → EvL tb σ H xs) : EvL (tIf t ta tb) σ H xs := fun H1 e Q q => h H1 e _ fun H2 e2 => by
  cases b with
  | true => exact h1 rfl H2 (e.trans e2) Q fun p H3 hp e3 => q p H3 (fresh_back e2 hp) (e2.trans e3)
  | false => exact h2 rfl H2 (e.trans e2) Q fun p H3 hp e3 => q p H3 (fresh_back e2 hp) (e2.trans e3)
theorem rv_shl {i j : Int} (h : 0 ≤ j ∧ j ≤ 1000000 ∧ i.natAbs < 2 ^ 64) : RV (rI CPow fun i j => .int (i * 2 ^ j.toNat)) (.int i) (.int j) H (.int (i * 2 ^ j.toNat)) := rv_I h
theorem rv_shr {i j : Int} (h : 0 ≤ j) : RV (rI (fun _ j => 0 ≤ j) fun i j => .int (i / 2 ^ j.toNat)) (.int i) (.int j) H (.int (i / 2 ^ j.toNat)) := rv_I h
theorem rc_min {i j : Int} : RC (fun xs H Q => ∃ i j, xs = [.int i, .int j] ∧ Q (.int (if j < i then j else i)) H) [.int i, .int j] H (.int (if j < i then j else i)) := rc_val fun _ _ _ q => ⟨i, j, rfl, q⟩
theorem rc_max {i j : Int} : RC (fun xs H Q => ∃ i j, xs = [.int i, .int j] ∧ Q (.int (if j > i then j else i)) H) [.int i, .int j] H (.int (if j > i then j else i)) := rc_val fun _ _ _ q => ⟨i, j, rfl, q⟩
theorem ev_min {i j : Int} (h : Ev ta σ H (.int i)) (h2 : Ev tb σ H (.int j)) : Ev (tCB (fun xs H Q => ∃ i j, xs = [.int i, .int j] ∧ Q (.int (if j < i then j else i)) H) (tCons ta (tCons tb tNil))) σ H (.int (if j < i then j else i)) := ev_cb (ea2 h h2) rc_min
theorem ev_add {i j : Int} (h : Ev ta σ H (.int i)) (h2 : Ev tb σ H (.int j)) : Ev (tOp (rI0 fun i j => .int (i + j)) ta tb) σ H (.int (i + j)) := ev_op h h2 rv_I0
theorem ev_sub {i j : Int} (h : Ev ta σ H (.int i)) (h2 : Ev tb σ H (.int j)) : Ev (tOp (rI0 fun i j => .int (i - j)) ta tb) σ H (.int (i - j)) := ev_op h h2 rv_I0
theorem ev_lt {i j : Int} (h : Ev ta σ H (.int i)) (h2 : Ev tb σ H (.int j)) : Ev (tOp (rI0 fun i j => .bl (decide (i < j))) ta tb) σ H (.bl (decide (i < j))) := ev_op h h2 rv_I0
theorem ev_eq {i j : Int} (h : Ev ta σ H (.int i)) (h2 : Ev tb σ H (.int j)) : Ev (tOp rEq ta tb) σ H (.bl (decide (i = j))) := by
  have q := ev_op h h2 (rv_eq (x := .int i) (y := .int j) rfl)
  have e : decide ((V.int i) = V.int j) = decide (i = j) := by
    by_cases z : i = j
    · subst z; simp
    · rw [decide_eq_false z, decide_eq_false (fun q => z (V.int.inj q))]
  rw [e] at q
  exact q
theorem ev_ne {i j : Int} (h : Ev ta σ H (.int i)) (h2 : Ev tb σ H (.int j)) : Ev (tOp rNe ta tb) σ H (.bl (!decide (i = j))) := by
  have q := ev_op h h2 (rv_ne (x := .int i) (y := .int j) rfl)
  have e : decide ((V.int i) = V.int j) = decide (i = j) := by
    by_cases z : i = j
    · subst z; simp
    · rw [decide_eq_false z, decide_eq_false (fun q => z (V.int.inj q))]
  rw [e] at q
  exact q
end
end KC
set_option Elab.async false
set_option linter.all false
set_option maxRecDepth 100000
set_option maxHeartbeats 4000000
namespace KC
open PySem PySem.Spec PyProof.Rows L2 GX Evl
def capC (N N' : List Str) (cm : List (Option Nat)) (scope sc : Scope) : Bool :=
  decide (scope.kind = .function) && !scope.isCoroutine && (scope.names.all fun y => decide (y.2 ≠ .cell)) && decide (scope.names.lookup (".0" : Str) = some NameKind.local) &&
    (scope.names.all fun y => !decide (y.2 = .free) || (decide (sc.names.lookup y.1 = some .cell) || decide (sc.names.lookup y.1 = some .free))) && decide (cm.length = N'.length) &&
    ((cm.zip N').all fun p => match p.1 with | some j => (N[j]? == some p.2) && (scope.names.lookup p.2 == some .free) | none => true)
theorem capOk_by {N N' : List Str} {cm : List (Option Nat)} {scope sc : Scope} (h : capC N N' cm scope sc = true) : CapOk N N' cm scope sc := by
  unfold capC at h
  simp only [Bool.and_eq_true, List.all_eq_true, decide_eq_true_eq, Bool.not_eq_true', Bool.or_eq_true, decide_eq_false_iff_not] at h
  obtain ⟨⟨⟨⟨⟨⟨h1, h2⟩, h3⟩, h4⟩, h5⟩, h6⟩, h7⟩ := h
  refine ⟨h1, h2, h3, h4, fun y hy e => ?_, h6, ?_⟩
  · rcases h5 y hy with z | z
    · exact absurd e z
    · exact z
  · rw [List.all_eq_true]
    intro p hp
    have := h7 p hp
    revert this
    cases p.1 <;> simp
theorem ix_listK {X : Cx} {K : PySem.W.Frag} (h : X.K = K) : IxR X (rIxL K) := by
  subst h
  exact ix_list
theorem ix_tupK {X : Cx} {K : PySem.W.Frag} (h : X.K = K) : IxR X (rIxT K) := by
  subst h
  exact ix_tup
theorem canLayAll0_map {α : Type} {f : α → PyData} (h : ∀ a, (f a).canLay0 = true) : ∀ xs : List α, PyData.canLayAll0 (xs.map f) = true
  | [] => by simp [PyData.canLayAll0]
  | a :: r => by simp [PyData.canLayAll0, h a, canLayAll0_map h r]
theorem depthAll_map {α : Type} {f : α → PyData} {n : Nat} (h : ∀ a, (f a).depth ≤ n) : ∀ xs : List α, PyData.depthAll (xs.map f) ≤ n
  | [] => by simp [PyData.depthAll]
  | a :: r => by
    have h1 := depthAll_map h r
    have h2 := h a
    simp only [List.map_cons, PyData.depthAll]
    omega
theorem shaped_list {α : Type} {f : α → PyData} {n : Nat} (hn : n ≤ 60) (h1 : ∀ a, (f a).canLay0 = true) (h2 : ∀ a, (f a).depth ≤ n) (xs : List α) : SeqAt.shaped (.list (xs.map f)) = true := by
  have h3 := depthAll_map h2 xs
  have h4 : PyData.depth (.list (xs.map f)) ≤ 64 := by simp only [PyData.depth]; omega
  show (PyData.canLay0 (.list (xs.map f)) && decide (PyData.depth (.list (xs.map f)) ≤ 64)) = true
  rw [Bool.and_eq_true]
  exact ⟨by simp only [PyData.canLay0]; exact canLayAll0_map h1 xs, decide_eq_true h4⟩
theorem shaped_ints (ns : List Int) : SeqAt.shaped (.list (ns.map PyData.int)) = true := shaped_list (n := 1) (by decide) (fun a => by simp [PyData.canLay0]) (fun a => by simp [PyData.depth]) ns
theorem eqvAll_map {α : Type} {f : α → PyData} (h : ∀ a, PyData.eqv (f a) (f a) = true) : ∀ xs : List α, PyData.eqvAll (xs.map f) (xs.map f) = true
  | [] => by simp [PyData.eqvAll]
  | a :: r => by simp [PyData.eqvAll, h a, eqvAll_map h r]
theorem eqv_list {α : Type} {f : α → PyData} (h : ∀ a, PyData.eqv (f a) (f a) = true) (xs : List α) : PyData.eqv (.list (xs.map f)) (.list (xs.map f)) = true := by
  simp only [PyData.eqv]
  exact eqvAll_map h xs
theorem eqv_ints (xs : List Int) : PyData.eqv (.list (xs.map PyData.int)) (.list (xs.map PyData.int)) = true := eqv_list (fun a => by simp [PyData.eqv]) xs
section
variable {K : PySem.W.Frag} {σ : L2.St} {H H' : Hp} {ta tb tc te tx : TE}
theorem ev_sumL {ns : List Int} (h : EvL te σ H (ns.map V.int)) : Ev (tCB (rSum K) (tCons te tNil)) σ H (.int ns.sum) := fun H1 e Q q =>
  h H1 e _ fun p H2 _ e2 hp => ⟨p, ns, rfl, sq_of hp, q H2 e2⟩
theorem ev_sumLa {ns : List Int} {a : Addr} (h : Ev te σ H (.ref a)) (hs : SqL K H a (ns.map V.int)) : Ev (tCB (rSum K) (tCons te tNil)) σ H (.int ns.sum) := fun H1 e Q q =>
  h H1 e _ fun H2 e2 => ⟨a, ns, rfl, ex_l (e.trans e2) hs, q H2 e2⟩
theorem et_yes : EvT tYes σ H true := fun H1 _ _ q => q H1 (Ex.refl H1)
/-- list(xs) -/
theorem el_listOf {p : Addr} {xs : List V} (ha : Ev ta σ H (.ref p)) (h : SqL K H p xs) : EvL (tCB (fun xs H Q => ∃ p ys, xs = [.ref p] ∧ (SqL K H p ys ∨ SqT K H p ys) ∧ ∀ l, H l = none → Q (.ref l) (upd H l (.lst ys))) (tCons ta tNil)) σ H xs := fun H1 e Q q =>
  ha H1 e _ fun H2 e2 => ⟨p, xs, rfl, .inl (ex_l (e.trans e2) h), fun l hl => q l _ (fresh_back e2 hl) (e2.trans (Ex.new hl)) upd_same⟩
/-- a call whose third argument is a new tuple -/
theorem ed_call3U {sp : Sp} {E : XK} {x y : V} {xs : List V} {d : PyData} (h1 : Ev ta σ H x) (h2 : Ev tb σ H y) (h3 : EvU tc σ H xs) (hs : ∀ p H1, Ex H H1 → H1 p = some (.tup xs) → SpD K sp [x, y, .ref p] H1 d) : EvD K (tCall sp [] E (tCons ta (tCons tb (tCons tc tNil)))) σ H d := fun H1 e Q q =>
  h1 H1 e _ fun H2 e2 => h2 H2 (e.trans e2) _ fun H3 e3 => h3 H3 ((e.trans e2).trans e3) _ fun p H4 hp e4 h4 =>
    hs p H4 (((e.trans e2).trans e3).trans e4) h4 H4 (Ex.refl _) Q (fun v H5 e5 hv => q v H5 (((e2.trans e3).trans e4).trans e5) hv) E
end
end KC
set_option Elab.async false
set_option linter.all false
set_option maxRecDepth 100000
set_option maxHeartbeats 4000000
namespace KC
open PySem PySem.Spec PyProof.Rows L2 StX GX Evl
section
variable {K : PySem.W.Frag} {σ : L2.St} {H H' : Hp} {ta tb tc te tx tl : TE} {D : Ends} {tz : TS}
theorem tt_yes {A B : Hp → Prop} (h : A H) : tYes σ H (fun b H3 => if b = true then A H3 else B H3) := by
  show (if true = true then A H else B H)
  rw [if_pos rfl]
  exact h
/-- a < b < c -/
theorem ev_chain {r r2 : R2} {x y z : V} {b1 b2 : Bool} (h1 : Ev ta σ H x) (h2 : Ev tb σ H y) (h3 : RV r x y H (.bl b1)) (h4 : b1 = true → Ev tc σ H z) (h5 : b1 = true → RV r2 y z H (.bl b2)) : Ev (tChain r r2 ta tb tc) σ H (.bl (b1 && b2)) := fun H1 e Q q =>
  h1 H1 e _ fun H2 e2 => h2 H2 (e.trans e2) _ fun H3 e3 => h3 H3 ((e.trans e2).trans e3) _ fun H4 e4 => by
    have e14 := (e2.trans e3).trans e4
    refine ⟨b1, rfl, ?_⟩
    cases b1 with
    | false =>
      rw [if_neg Bool.false_ne_true]
      exact q H4 e14
    | true =>
      rw [if_pos rfl]
      exact h4 rfl H4 (e.trans e14) _ fun H5 e5 => h5 rfl H5 ((e.trans e14).trans e5) _ fun H6 e6 => q H6 ((e14.trans e5).trans e6)
/-- max([c, *xs]) where c is not below any -/
theorem ev_maxStar {c : Int} {l : Addr} {ls : List Int} (h : Ev ta σ H (.int c)) (h2 : Ev tb σ H (.ref l)) (hs : SqL K H l (ls.map V.int)) (hb : ∀ x ∈ ls, x ≤ c) (hz : ls.length ≤ 1000) :
    Ev (tCB (rMax K) (tCons (tLst (tCons ta (tStar K tb tNil))) tNil)) σ H (.int c) := fun H1 e Q q =>
  h H1 e _ fun H2 e2 => h2 H2 (e.trans e2) _ fun H3 e3 => by
    refine ⟨l, ls.map V.int, rfl, .inr (ex_l ((e.trans e2).trans e3) hs), sz_of ?_, fun p hp => ⟨p, c :: ls, rfl, sq_of ?_, Nat.succ_pos _, fun m hm hall => ?_⟩⟩
    · simp
      omega
    · rw [upd_same, List.append_nil]
      rfl
    · have h1 := hall c List.mem_cons_self
      have h3 : m ≤ c := by
        rcases List.mem_cons.mp hm with z | z
        · omega
        · exact hb m z
      have h4 : m = c := by omega
      subst h4
      exact q _ ((e2.trans e3).trans (Ex.new hp))
theorem max_of : ∀ ls : List Int, ls ≠ [] → ∃ m, m ∈ ls ∧ ∀ y ∈ ls, y ≤ m
  | [], h => absurd rfl h
  | [x], _ => ⟨x, List.mem_cons_self, fun y hy => by rw [List.mem_singleton.mp hy]; exact Int.le_refl _⟩
  | x :: y :: r, _ => by
    obtain ⟨m, h1, h2⟩ := max_of (y :: r) (by simp)
    by_cases e : m ≤ x
    · refine ⟨x, List.mem_cons_self, fun z hz => ?_⟩
      rcases List.mem_cons.mp hz with h | h
      · omega
      · have := h2 z h; omega
    · refine ⟨m, List.mem_cons_of_mem _ h1, fun z hz => ?_⟩
      rcases List.mem_cons.mp hz with h | h
      · omega
      · exact h2 z h
/-- max(xs) -/
theorem ev_maxL {l : Addr} {ls : List Int} {m : Int} (h : Ev ta σ H (.ref l)) (hs : SqL K H l (ls.map V.int)) (hm : m ∈ ls) (hall : ∀ y ∈ ls, y ≤ m) : Ev (tCB (rMax K) (tCons ta tNil)) σ H (.int m) := fun H1 e Q q =>
  h H1 e _ fun H2 e2 => ⟨l, ls, rfl, ex_l (e.trans e2) hs, List.length_pos_of_mem hm, fun n hn hal => by
    have h1 := hal m hm
    have h2 := hall n hn
    have : n = m := by omega
    subst this
    exact q H2 e2⟩
theorem sum_bd : ∀ (l : List Int) (B : Int), (∀ x ∈ l, 0 ≤ x ∧ x ≤ B) → 0 ≤ l.sum ∧ l.sum ≤ l.length * B
  | [], B, _ => by simp
  | x :: r, B, h => by
    have h1 := sum_bd r B fun y hy => h y (List.mem_cons_of_mem _ hy)
    have h2 := h x List.mem_cons_self
    have e : ((x :: r).length : Int) * B = r.length * B + B := by
      rw [List.length_cons, Int.natCast_add, Int.add_mul]
      simp
    rw [List.sum_cons, e]
    omega
/-- sum(f(x) for x in xs if b(x)) -/
theorem ev_sumLF {tt : TT} {Pt l : Addr} {cm : List (Option Nat)} {own : List Nat} {xs : List Int} (f : Int → Int) (b : Int → Bool) (h : Ev tl σ H (.ref l)) (hx : SqL K H l (xs.map V.int)) (hn : xs.length ≤ 1000) (tab : H Pt = some (TabX Pt))
    (hf : ∀ x ∈ xs, 0 ≤ f x ∧ f x ≤ 2 ^ 40) (hw : ∀ x, wipe ((captS cm σ).set 0 (some x)) own = captS cm σ) (ht : ∀ x ∈ xs, ∀ H1, Ex H H1 → EvT tt ((captS cm σ).set 0 (some (.int x))) H1 (b x))
    (he : ∀ x ∈ xs, b x = true → ∀ H1, Ex H H1 → Ev te ((captS cm σ).set 0 (some (.int x))) H1 (.int (f x))) :
    Ev (tSumG (tGx Pt (iList K tl) (gName 0) tt te cm own)) σ H (.int ((xs.filter b).map f).sum) := fun H1 e Q q =>
  h H1 e _ fun H3 e13 => by
    have e03 := e.trans e13
    have hxl : (xs.map V.int).length = xs.length := List.length_map _
    refine ⟨l, rfl, ⟨_, ex_l e03 hx⟩, e03 Pt _ tab, fun i m zs H' => m + i = xs.length ∧ Ex H3 H' ∧ zs = (((xs.take i).filter b).map f).map V.int, ⟨xs.length, by omega, Ex.refl _, rfl⟩, ?_⟩
    rintro i m zs H' ⟨hm, e4, rfl⟩
    have e04 := e03.trans e4
    by_cases hi : i < xs.length
    · right
      refine ⟨⟨_, _, ex_l e04 hx, int_at hi⟩, fun zs H5 => (m - 1) + (i + 1) = xs.length ∧ Ex H3 H5 ∧ zs = (((xs.take (i + 1)).filter b).map f).map V.int, fun zs H5 q => ⟨m - 1, by omega, q⟩, ?_⟩
      rintro v H5 ⟨rfl, hx1⟩
      have ex1 := (Option.some.inj ((int_at hi).symm.trans (hx1 _ (ex_l e04 hx)))).symm
      subst ex1
      have hxi : xs.getD i 0 = xs[i] := by rw [List.getD_eq_getElem?_getD, List.getElem?_eq_getElem hi] <;> rfl
      have hmem : xs.getD i 0 ∈ xs := by rw [hxi]; exact List.getElem_mem hi
      have htk : xs.take (i + 1) = xs.take i ++ [xs.getD i 0] := by rw [hxi]; exact (List.take_append_getElem hi).symm
      refine ⟨hw _, ht _ hmem _ e04 _ (Ex.refl _) _ fun H6 e6 => ?_⟩
      cases hb : b (xs.getD i 0) with
      | false =>
        rw [if_neg Bool.false_ne_true]
        refine ⟨by omega, e4.trans e6, ?_⟩
        rw [htk, List.filter_append, List.filter_cons, if_neg (by rw [hb]; decide), List.filter_nil, List.append_nil]
      | true =>
        rw [if_pos rfl]
        refine he _ hmem hb _ (e04.trans e6) _ (Ex.refl _) _ fun H7 e7 => ?_
        have hall : ∀ y ∈ ((xs.take i).filter b).map f, 0 ≤ y ∧ y ≤ 2 ^ 40 := fun y hy => by
          obtain ⟨x, hx2, rfl⟩ := List.mem_map.mp hy
          exact hf x (List.mem_of_mem_take (List.mem_filter.mp hx2).1)
        have hb1 := sum_bd _ _ hall
        have hb2 := hf _ hmem
        have hlen : (((xs.take i).filter b).map f).length ≤ i := by
          rw [List.length_map]
          exact Nat.le_trans (List.length_filter_le _ _) (by rw [List.length_take]; omega)
        have hB : ((((xs.take i).filter b).map f).length : Int) * 2 ^ 40 ≤ 1000 * 2 ^ 40 := by omega
        refine ⟨sz_lt (by rw [List.length_map]; omega), ⟨f _, rfl, ⟨by omega, by omega⟩, ?_⟩, by omega, (e4.trans e6).trans e7, ?_⟩
        · rw [vsum_ints]
          exact ⟨by omega, by omega⟩
        · rw [htk, List.filter_append, List.filter_cons, if_pos hb, List.filter_nil, List.map_append, List.map_append]
          rfl
    · left
      have hin : i = xs.length := by omega
      subst hin
      refine ⟨⟨_, ex_l e04 hx, by rw [hxl]; exact Nat.le_refl _⟩, ?_⟩
      show Q (.int (vsum _)) H'
      rw [vsum_ints, List.take_length]
      exact q H' (e13.trans e4)
/-- any(b(x) for x in xs) -/
theorem ev_anyL {Pt l : Addr} {cm : List (Option Nat)} {own : List Nat} {xs : List Int} (b : Int → Bool) (h : Ev tl σ H (.ref l)) (hx : SqL K H l (xs.map V.int)) (hn : xs.length ≤ 1000) (tab : H Pt = some (TabX Pt))
    (hw : ∀ x, wipe ((captS cm σ).set 0 (some x)) own = captS cm σ) (he : ∀ x ∈ xs, ∀ H1, Ex H H1 → Ev te ((captS cm σ).set 0 (some (.int x))) H1 (.bl (b x))) :
    Ev (tAnyG (tGx Pt (iList K tl) (gName 0) tYes te cm own)) σ H (.bl (xs.any b)) := fun H1 e Q q =>
  h H1 e _ fun H3 e13 => by
    have e03 := e.trans e13
    have hxl : (xs.map V.int).length = xs.length := List.length_map _
    refine ⟨l, rfl, ⟨_, ex_l e03 hx⟩, e03 Pt _ tab, fun i m zs H' => m + i = xs.length ∧ Ex H3 H' ∧ zs = (xs.take i).map fun x => V.bl (b x), ⟨xs.length, by omega, Ex.refl _, rfl⟩, ?_⟩
    rintro i m zs H' ⟨hm, e4, rfl⟩
    have e04 := e03.trans e4
    by_cases hi : i < xs.length
    · right
      refine ⟨⟨_, _, ex_l e04 hx, int_at hi⟩, fun zs H5 => (m - 1) + (i + 1) = xs.length ∧ Ex H3 H5 ∧ zs = (xs.take (i + 1)).map fun x => V.bl (b x), fun zs H5 q => ⟨m - 1, by omega, q⟩, ?_⟩
      rintro v H5 ⟨rfl, hx1⟩
      have ex1 := (Option.some.inj ((int_at hi).symm.trans (hx1 _ (ex_l e04 hx)))).symm
      subst ex1
      have hxi : xs.getD i 0 = xs[i] := by rw [List.getD_eq_getElem?_getD, List.getElem?_eq_getElem hi] <;> rfl
      have hmem : xs.getD i 0 ∈ xs := by rw [hxi]; exact List.getElem_mem hi
      have htk : xs.take (i + 1) = xs.take i ++ [xs.getD i 0] := by rw [hxi]; exact (List.take_append_getElem hi).symm
      refine ⟨hw _, tt_yes ?_⟩
      refine he _ hmem _ e04 _ (Ex.refl _) _ fun H7 e7 => ?_
      have hyes : b (xs.getD i 0) = true → xs.any b = true := fun z => List.any_eq_true.mpr ⟨_, hmem, z⟩
      refine ⟨sz_lt (by rw [List.length_map, List.length_take]; omega), ⟨_, rfl, fun z => ?_⟩, by omega, e4.trans e7, ?_⟩
      · have := hyes z
        rw [← this]
        exact q _ ((e13.trans e4).trans e7)
      · rw [htk, List.map_append]
        rfl
    · left
      have hin : i = xs.length := by omega
      subst hin
      refine ⟨⟨_, ex_l e04 hx, by rw [hxl]; exact Nat.le_refl _⟩, fun hno => ?_⟩
      rw [List.take_length] at hno
      have hr : xs.any b = false := by
        rw [List.any_eq_false]
        intro x hx2 hb
        exact hno _ (List.mem_map.mpr ⟨x, hx2, rfl⟩) (by rw [hb])
      rw [← hr]
      exact q H' (e13.trans e4)
end
end KC
set_option linter.all false
/-! The mathematics of ranks, rests and choices: plain lists. -/
namespace M03
def wAt (ws : List Int) (k : Nat) : Int := ws.getD k 0
/-- k comes before j -/
def Rk (ws : List Int) (k j : Nat) : Prop := wAt ws j < wAt ws k ∨ (wAt ws k = wAt ws j ∧ k < j)
structure IsRank (ws : List Int) (ord : List Nat) : Prop where
  pw : ord.Pairwise (Rk ws)
  mem : ∀ k, k ∈ ord ↔ k < ws.length
theorem Rk.irrefl {ws : List Int} {k : Nat} (h : Rk ws k k) : False := by
  unfold Rk at h; omega
theorem Rk.asymm {ws : List Int} {k j : Nat} (h : Rk ws k j) (h2 : Rk ws j k) : False := by
  unfold Rk at h h2; omega
theorem Rk.trans {ws : List Int} {k j i : Nat} (h : Rk ws k j) (h2 : Rk ws j i) : Rk ws k i := by
  unfold Rk at *; omega
theorem Rk.total {ws : List Int} {k j : Nat} (h : k ≠ j) : Rk ws k j ∨ Rk ws j k := by
  unfold Rk; omega
theorem uniq (ws : List Int) : ∀ (a b : List Nat), a.Pairwise (Rk ws) → b.Pairwise (Rk ws) → (∀ k, k ∈ a ↔ k ∈ b) → a = b
  | [], [], _, _, _ => rfl
  | [], y :: b, _, _, h => absurd ((h y).mpr List.mem_cons_self) (by simp)
  | x :: a, [], _, _, h => absurd ((h x).mp List.mem_cons_self) (by simp)
  | x :: a, y :: b, ha, hb, h => by
    have ha' := List.pairwise_cons.mp ha
    have hb' := List.pairwise_cons.mp hb
    have e : x = y := by
      rcases List.mem_cons.mp ((h x).mp List.mem_cons_self) with e | e
      · exact e
      · rcases List.mem_cons.mp ((h y).mpr List.mem_cons_self) with e2 | e2
        · exact e2.symm
        · exact (Rk.asymm (hb'.1 x e) (ha'.1 y e2)).elim
    subst e
    rw [uniq ws a b ha'.2 hb'.2 fun k => ?_]
    constructor
    · intro hk
      rcases List.mem_cons.mp ((h k).mp (List.mem_cons_of_mem _ hk)) with e | e
      · subst e; exact (Rk.irrefl (ha'.1 _ hk)).elim
      · exact e
    · intro hk
      rcases List.mem_cons.mp ((h k).mpr (List.mem_cons_of_mem _ hk)) with e | e
      · subst e; exact (Rk.irrefl (hb'.1 _ hk)).elim
      · exact e
theorem IsRank.uniq {ws : List Int} {a b : List Nat} (ha : IsRank ws a) (hb : IsRank ws b) : a = b := M03.uniq ws a b ha.pw hb.pw fun k => (ha.mem k).trans (hb.mem k).symm
def leK (ws : List Int) (k j : Nat) : Bool := decide (wAt ws j < wAt ws k ∨ (wAt ws k = wAt ws j ∧ k ≤ j))
def rankL (ws : List Int) : List Nat := (List.range ws.length).mergeSort (leK ws)
theorem rank_perm (ws : List Int) : (rankL ws).Perm (List.range ws.length) := List.mergeSort_perm _ _
theorem rank_is (ws : List Int) : IsRank ws (rankL ws) := by
  refine ⟨?_, fun k => ?_⟩
  · have h1 : (rankL ws).Pairwise fun a b => leK ws a b = true := List.pairwise_mergeSort (fun a b c => by unfold leK; simp only [decide_eq_true_eq]; omega) (fun a b => by unfold leK; simp only [Bool.or_eq_true, decide_eq_true_eq]; omega) _
    have h2 : (rankL ws).Nodup := (rank_perm ws).nodup_iff.mpr List.nodup_range
    have h3 := h1.and h2
    refine h3.imp fun {a b} h => ?_
    obtain ⟨h4, h5⟩ := h
    unfold leK at h4
    unfold Rk
    have h6 := of_decide_eq_true h4
    have h7 : a ≠ b := h5
    omega
  · rw [(rank_perm ws).mem_iff, List.mem_range]
theorem rank_len (ws : List Int) : (rankL ws).length = ws.length := by rw [(rank_perm ws).length_eq, List.length_range]
theorem rank_lt {ws : List Int} {k : Nat} (h : k ∈ rankL ws) : k < ws.length := ((rank_is ws).mem k).mp h
/-- choosing the best of the rest again and again -/
structure Part (ws : List Int) (ord : List Nat) : Prop where
  pw : ord.Pairwise (Rk ws)
  lt : ∀ k ∈ ord, k < ws.length
  before : ∀ k ∈ ord, ∀ j, j < ws.length → j ∉ ord → Rk ws k j
theorem Part.nil (ws : List Int) : Part ws [] := ⟨.nil, by simp, by simp⟩
/-- b: the best among the first i that ord has not -/
def Best (ws : List Int) (ord : List Nat) (i : Nat) : Option Nat → Prop
  | none => ∀ j, j < i → j ∈ ord
  | some b => b < i ∧ b ∉ ord ∧ ∀ j, j < i → j ∉ ord → j ≠ b → Rk ws b j
theorem Part.add {ws : List Int} {ord : List Nat} {b : Nat} (p : Part ws ord) (h : Best ws ord ws.length (some b)) : Part ws (ord ++ [b]) := by
  obtain ⟨h1, h2, h3⟩ := h
  refine ⟨List.pairwise_append.mpr ⟨p.pw, List.pairwise_singleton _ _, fun a ha c hc => ?_⟩, fun k hk => ?_, fun k hk j hj hn => ?_⟩
  · rw [List.mem_singleton.mp hc]
    exact p.before a ha b h1 h2
  · rcases List.mem_append.mp hk with h | h
    · exact p.lt k h
    · rw [List.mem_singleton.mp h]; exact h1
  · have hn1 : j ∉ ord := fun z => hn (List.mem_append_left _ z)
    have hn2 : j ≠ b := fun z => hn (by rw [z]; exact List.mem_append_right _ (List.mem_singleton.mpr rfl))
    rcases List.mem_append.mp hk with h | h
    · exact p.before k h j hj hn1
    · rw [List.mem_singleton.mp h]
      exact h3 j hj hn1 hn2
theorem nodup_sub : ∀ (l m : List Nat), l.Nodup → (∀ x ∈ l, x ∈ m) → l.length ≤ m.length
  | [], _, _, _ => Nat.zero_le _
  | x :: l, m, h, hs => by
    have h' := List.nodup_cons.mp h
    have hx := hs x List.mem_cons_self
    have h1 := nodup_sub l (m.erase x) h'.2 fun y hy => (List.mem_erase_of_ne (fun e => h'.1 (by rw [← e]; exact hy))).mpr (hs y (List.mem_cons_of_mem _ hy))
    rw [List.length_erase_of_mem hx] at h1
    have h2 := List.length_pos_of_mem hx
    simp only [List.length_cons]
    omega
theorem nodup_le {ord : List Nat} {n : Nat} (h : ord.Nodup) (hl : ∀ k ∈ ord, k < n) : ord.length ≤ n := by
  have h2 := nodup_sub ord (List.range n) h fun k hk => List.mem_range.mpr (hl k hk)
  rwa [List.length_range] at h2
theorem Part.nodup {ws : List Int} {ord : List Nat} (p : Part ws ord) : ord.Nodup := p.pw.imp fun {a b} h e => by subst e; exact h.irrefl
/-- a best one is there while ord is not whole -/
theorem Part.some {ws : List Int} {ord : List Nat} (p : Part ws ord) (h : ord.length < ws.length) {o : Option Nat} (hb : Best ws ord ws.length o) : ∃ b, o = .some b := by
  cases o with
  | some b => exact ⟨b, rfl⟩
  | none =>
    have h2 := nodup_sub (List.range ws.length) ord List.nodup_range fun k hk => hb k (List.mem_range.mp hk)
    rw [List.length_range] at h2
    omega
theorem Part.whole {ws : List Int} {ord : List Nat} (p : Part ws ord) (h : ord.length = ws.length) : ord = rankL ws := by
  refine IsRank.uniq ⟨p.pw, fun k => ⟨p.lt k, fun hk => ?_⟩⟩ (rank_is ws)
  by_cases hm : k ∈ ord
  · exact hm
  · exfalso
    have h2 : (k :: ord).Nodup := List.nodup_cons.mpr ⟨hm, p.nodup⟩
    have h3 := nodup_le h2 (n := ws.length) fun j hj => by
      rcases List.mem_cons.mp hj with e | e
      · rw [e]; exact hk
      · exact p.lt j e
    simp only [List.length_cons] at h3
    omega
theorem Best.zero (ws : List Int) (ord : List Nat) : Best ws ord 0 none := fun j h => absurd h (Nat.not_lt_zero j)
theorem Best.skip {ws : List Int} {ord : List Nat} {i : Nat} {o : Option Nat} (h : Best ws ord i o) (hi : i ∈ ord) : Best ws ord (i + 1) o := by
  cases o with
  | none =>
    intro j hj
    by_cases e : j = i
    · rw [e]; exact hi
    · exact h j (by omega)
  | some b =>
    obtain ⟨h1, h2, h3⟩ := h
    refine ⟨by omega, h2, fun j hj hn hb => ?_⟩
    by_cases e : j = i
    · rw [e] at hn; exact absurd hi hn
    · exact h3 j (by omega) hn hb
theorem Best.first {ws : List Int} {ord : List Nat} {i : Nat} (h : Best ws ord i none) (hi : i ∉ ord) : Best ws ord (i + 1) (some i) := by
  refine ⟨by omega, hi, fun j hj hn hb => ?_⟩
  exact absurd (h j (by omega)) hn
theorem Best.take {ws : List Int} {ord : List Nat} {i b : Nat} (h : Best ws ord i (some b)) (hi : i ∉ ord) (hw : wAt ws b < wAt ws i) : Best ws ord (i + 1) (some i) := by
  obtain ⟨h1, h2, h3⟩ := h
  refine ⟨by omega, hi, fun j hj hn hb => ?_⟩
  by_cases e : j = b
  · rw [e]; exact .inl hw
  · have := h3 j (by omega) hn e
    exact Rk.trans (.inl hw) this
theorem Best.keep {ws : List Int} {ord : List Nat} {i b : Nat} (h : Best ws ord i (some b)) (hw : ¬ wAt ws b < wAt ws i) : Best ws ord (i + 1) (some b) := by
  obtain ⟨h1, h2, h3⟩ := h
  refine ⟨by omega, h2, fun j hj hn hb => ?_⟩
  by_cases e : j = i
  · rw [e]; unfold Rk; omega
  · exact h3 j (by omega) hn hb

/-! ### rests -/
def restL : List Int → List Int
  | [] => [0]
  | v :: r => (v + (restL r).headD 0) :: restL r
theorem restL_len : ∀ vs : List Int, (restL vs).length = vs.length + 1
  | [] => rfl
  | v :: r => by simp [restL, restL_len r]
def ranked (ws : List Int) : List Int := (rankL ws).map (wAt ws)
theorem ranked_len (ws : List Int) : (ranked ws).length = ws.length := by simp [ranked, rank_len]
theorem ranked_perm (ws : List Int) : (ranked ws).Perm ws := by
  have h := (rank_perm ws).map (wAt ws)
  have e : (List.range ws.length).map (wAt ws) = ws := by
    refine List.ext_getElem (by simp) fun i h1 h2 => ?_
    simp [wAt, List.getD_eq_getElem?_getD, h2]
  rw [e] at h
  exact h
theorem ranked_desc (ws : List Int) : (ranked ws).Pairwise (fun a b => b ≤ a) := by
  unfold ranked
  refine List.pairwise_map.mpr ((rank_is ws).pw.imp fun {a b} h => ?_)
  unfold Rk at h
  omega
theorem sorted_uniq : ∀ (a b : List Int), a.Pairwise (· ≤ ·) → b.Pairwise (· ≤ ·) → a.Perm b → a = b
  | [], b, _, _, h => (List.Perm.nil_eq h)
  | x :: a, [], _, _, h => absurd h.length_eq (by simp)
  | x :: a, y :: b, ha, hb, h => by
    have ha' := List.pairwise_cons.mp ha
    have hb' := List.pairwise_cons.mp hb
    have e : x = y := by
      have h1 : x ≤ y := by
        rcases List.mem_cons.mp (h.mem_iff.mpr (List.mem_cons_self (a := y) (l := b))) with e | e
        · omega
        · exact ha'.1 y e
      have h2 : y ≤ x := by
        rcases List.mem_cons.mp (h.mem_iff.mp (List.mem_cons_self (a := x) (l := a))) with e | e
        · omega
        · exact hb'.1 x e
      omega
    subst e
    rw [sorted_uniq a b ha'.2 hb'.2 h.cons_inv]
theorem asc_is {ws asc : List Int} (h : asc.Perm ws) (hs : asc.Pairwise (· ≤ ·)) : asc = (ranked ws).reverse := by
  refine sorted_uniq _ _ hs (List.pairwise_reverse.mpr (ranked_desc ws)) ?_
  exact h.trans ((ranked_perm ws).symm.trans (List.reverse_perm _).symm)
/-- sums of the beginnings -/
def pre : List Int → List Int
  | [] => [0]
  | v :: r => 0 :: (pre r).map (v + ·)
def sumsA : List Int → List Int → List Int := fun acc vs => vs.foldl (fun acc v => acc ++ [acc.getLastD 0 + v]) acc
theorem restL_snoc : ∀ (vs : List Int), ∀ l, l = vs.reverse → ∀ v, restL (v :: vs) = (v + (restL vs).headD 0) :: restL vs := fun _ _ _ _ => rfl
/-! ### the choices -/
abbrev Nxt := Option (Int × Int × Int)
def chOne (sums : List Int) (limit depth m k : Int) (a : Nat) : Option (Int × Int × Nxt) :=
  let n : Int := (sums.length : Int) - 1
  let ok : Bool := if depth = limit then decide ((a : Int) = n - m) else (decide (0 < depth) || decide ((a : Int) = 0))
  if ok && decide (m + a = n) then some (a, 0, none)
  else if ok && decide ((a : Int) < k) then some (a, sums.getD (m + a).toNat 0, some (depth + 1, m + a, if n - m - a < 2 * (k - a) then n - m - a else 2 * (k - a)))
  else none
def chN (sums : List Int) (m k : Int) : Nat := ((if (sums.length : Int) - 1 - m < k then (sums.length : Int) - 1 - m else k) + 1).toNat
def chL (sums : List Int) (limit depth m k : Int) : List (Int × Int × Nxt) := (List.range (chN sums m k)).filterMap (chOne sums limit depth m k)
end M03
set_option linter.all false
/-! The mathematics of prefix codes: lengths, room, canonical words. -/
namespace M01
def lnA (ls : List Int) (k : Nat) : Nat := (ls.getD k 0).toNat
/-- lengths from 0 to 20 -/
def Lok (ls : List Int) : Prop := ∀ x ∈ ls, 0 ≤ x ∧ x ≤ 20
def share (x : Int) : Int := if x = 0 then 0 else (2 : Int) ^ (20 - x.toNat)
def kraft (ls : List Int) : Int := (ls.map share).sum
def roomL (ls : List Int) : Int := 1048576 - kraft ls
theorem kraft_app (a b : List Int) : kraft (a ++ b) = kraft a + kraft b := by
  unfold kraft
  rw [List.map_append, List.sum_append]
theorem pow_nn (n : Nat) : (0 : Int) ≤ 2 ^ n := Int.le_of_lt (Int.pow_pos (by decide))
theorem share_nn (x : Int) : 0 ≤ share x := by
  unfold share
  split
  · exact Int.le_refl _
  · exact pow_nn _
theorem pow20 : ∀ l : Nat, l ≤ 20 → (1048576 : Int) / (1 * 2 ^ l) = 2 ^ (20 - l) := fun l h => by
  have : ∀ l : Fin 21, (1048576 : Int) / (1 * 2 ^ l.val) = 2 ^ (20 - l.val) := by decide
  exact this ⟨l, by omega⟩
theorem share_bd (x : Int) : share x ≤ 1048576 := by
  unfold share
  split
  · decide
  · have : ∀ y : Fin 21, (2 : Int) ^ y.val ≤ 1048576 := by decide
    exact this ⟨20 - x.toNat, by omega⟩
theorem kraft_zero : ∀ ls : List Int, (∀ x ∈ ls, x = 0) → kraft ls = 0
  | [], _ => rfl
  | x :: r, h => by
    have h1 := kraft_zero r fun y hy => h y (List.mem_cons_of_mem _ hy)
    have h2 := h x List.mem_cons_self
    subst h2
    show share 0 + kraft r = 0
    rw [h1]
    rfl
/-! ### the order: by length, then by symbol -/
def Lx (ls : List Int) (k j : Nat) : Prop := lnA ls k < lnA ls j ∨ (lnA ls k = lnA ls j ∧ k < j)
theorem Lx.irrefl {ls : List Int} {k : Nat} (h : Lx ls k k) : False := by
  unfold Lx at h; omega
theorem Lx.asymm {ls : List Int} {k j : Nat} (h : Lx ls k j) (h2 : Lx ls j k) : False := by
  unfold Lx at h h2; omega
theorem uniq (ls : List Int) : ∀ (a b : List Nat), a.Pairwise (Lx ls) → b.Pairwise (Lx ls) → (∀ k, k ∈ a ↔ k ∈ b) → a = b
  | [], [], _, _, _ => rfl
  | [], y :: b, _, _, h => absurd ((h y).mpr List.mem_cons_self) (by simp)
  | x :: a, [], _, _, h => absurd ((h x).mp List.mem_cons_self) (by simp)
  | x :: a, y :: b, ha, hb, h => by
    have ha' := List.pairwise_cons.mp ha
    have hb' := List.pairwise_cons.mp hb
    have e : x = y := by
      rcases List.mem_cons.mp ((h x).mp List.mem_cons_self) with e | e
      · exact e
      · rcases List.mem_cons.mp ((h y).mpr List.mem_cons_self) with e2 | e2
        · exact e2.symm
        · exact (Lx.asymm (hb'.1 x e) (ha'.1 y e2)).elim
    subst e
    rw [uniq ls a b ha'.2 hb'.2 fun k => ?_]
    constructor
    · intro hk
      rcases List.mem_cons.mp ((h k).mp (List.mem_cons_of_mem _ hk)) with e | e
      · subst e; exact (Lx.irrefl (ha'.1 _ hk)).elim
      · exact e
    · intro hk
      rcases List.mem_cons.mp ((h k).mpr (List.mem_cons_of_mem _ hk)) with e | e
      · subst e; exact (Lx.irrefl (hb'.1 _ hk)).elim
      · exact e
structure IsOrd (ls : List Int) (o : List Nat) : Prop where
  pw : o.Pairwise (Lx ls)
  mem : ∀ k, k ∈ o ↔ k < ls.length ∧ 0 < lnA ls k
/-- the order as far as (L, k) -/
structure Proc (ls : List Int) (L k : Nat) (o : List Nat) : Prop where
  pw : o.Pairwise (Lx ls)
  mem : ∀ s, s ∈ o ↔ s < ls.length ∧ 0 < lnA ls s ∧ (lnA ls s < L ∨ (lnA ls s = L ∧ s < k))
theorem Proc.zero (ls : List Int) : Proc ls 1 0 [] := ⟨.nil, fun s => by simp; omega⟩
theorem Proc.skip {ls : List Int} {L k : Nat} {o : List Nat} (h : Proc ls L k o) (e : lnA ls k ≠ L) : Proc ls L (k + 1) o := ⟨h.pw, fun s => by
  rw [h.mem]
  constructor
  · rintro ⟨a, b, c⟩
    exact ⟨a, b, by omega⟩
  · rintro ⟨a, b, c⟩
    refine ⟨a, b, ?_⟩
    rcases c with c | ⟨c, d⟩
    · exact .inl c
    · by_cases z : s = k
      · subst z; exact absurd c e
      · exact .inr ⟨c, by omega⟩⟩
theorem Proc.add {ls : List Int} {L k : Nat} {o : List Nat} (h : Proc ls L k o) (e : lnA ls k = L) (hL : 0 < L) (hk : k < ls.length) : Proc ls L (k + 1) (o ++ [k]) ∧ k ∉ o := by
  have hn : k ∉ o := fun z => by have := (h.mem k).mp z; omega
  refine ⟨⟨List.pairwise_append.mpr ⟨h.pw, List.pairwise_singleton _ _, fun a ha b hb => ?_⟩, fun s => ?_⟩, hn⟩
  · rw [List.mem_singleton.mp hb]
    have := (h.mem a).mp ha
    unfold Lx
    omega
  · rw [List.mem_append, h.mem, List.mem_singleton]
    constructor
    · rintro (⟨a, b, c⟩ | rfl)
      · exact ⟨a, b, by omega⟩
      · exact ⟨hk, by omega, by omega⟩
    · rintro ⟨a, b, c⟩
      by_cases z : s = k
      · exact .inr z
      · exact .inl ⟨a, b, by omega⟩
theorem Proc.next {ls : List Int} {L : Nat} {o : List Nat} (h : Proc ls L ls.length o) : Proc ls (L + 1) 0 o := ⟨h.pw, fun s => by
  rw [h.mem]
  constructor
  · rintro ⟨a, b, c⟩
    exact ⟨a, b, by omega⟩
  · rintro ⟨a, b, c⟩
    exact ⟨a, b, by omega⟩⟩
theorem ln_le {ls : List Int} (h : Lok ls) (k : Nat) : lnA ls k ≤ 20 := by
  unfold lnA
  by_cases hk : k < ls.length
  · have := h _ (List.getElem_mem hk)
    rw [List.getD_eq_getElem?_getD, List.getElem?_eq_getElem hk]
    show (ls[k]).toNat ≤ 20
    omega
  · rw [List.getD_eq_getElem?_getD, List.getElem?_eq_none (by omega)]
    decide
theorem Proc.whole {ls : List Int} {o : List Nat} (hl : Lok ls) (h : Proc ls 21 0 o) : IsOrd ls o := ⟨h.pw, fun s => by
  rw [h.mem]
  have := ln_le hl s
  constructor
  · rintro ⟨a, b, c⟩
    exact ⟨a, b⟩
  · rintro ⟨a, b⟩
    exact ⟨a, b, by omega⟩⟩
theorem IsOrd.uniq {ls : List Int} {a b : List Nat} (ha : IsOrd ls a) (hb : IsOrd ls b) : a = b := M01.uniq ls a b ha.pw hb.pw fun k => (ha.mem k).trans (hb.mem k).symm
/-! ### words -/
def bitsL (x l : Nat) : List Int := (List.range l).map fun j => ((x / 2 ^ (l - 1 - j) % 2 : Nat) : Int)
theorem bits_len (x l : Nat) : (bitsL x l).length = l := by simp [bitsL]
def xs (ls : List Int) (o : List Nat) : Nat := (o.map fun s => 2 ^ (20 - lnA ls s)).sum
theorem xs_snoc (ls : List Int) (o : List Nat) (s : Nat) : xs ls (o ++ [s]) = xs ls o + 2 ^ (20 - lnA ls s) := by
  unfold xs
  rw [List.map_append, List.sum_append]
  simp
def wd (ls : List Int) (o : List Nat) (s : Nat) : List Int := bitsL (xs ls o / 2 ^ (20 - lnA ls s)) (lnA ls s)
def upTo (o : List Nat) (k : Nat) : List Nat := o.takeWhile fun x => decide (x ≠ k)
theorem upTo_app {o : List Nat} {k s : Nat} (h : k ∈ o) : upTo (o ++ [s]) k = upTo o k := by
  unfold upTo
  induction o with
  | nil => simp at h
  | cons x r ih =>
    by_cases e : x = k
    · subst e
      simp
    · have h' : k ∈ r := by
        rcases List.mem_cons.mp h with z | z
        · exact absurd z.symm e
        · exact z
      simp only [List.cons_append]
      rw [List.takeWhile_cons_of_pos (by simpa using e), List.takeWhile_cons_of_pos (by simpa using e), ih h']
theorem upTo_new {o : List Nat} {s : Nat} (h : s ∉ o) : upTo (o ++ [s]) s = o := by
  unfold upTo
  induction o with
  | nil => simp
  | cons x r ih =>
    have hx : x ≠ s := fun z => h (by rw [z]; exact List.mem_cons_self)
    simp only [List.cons_append]
    rw [List.takeWhile_cons_of_pos (by simpa using hx), ih fun z => h (List.mem_cons_of_mem _ z)]
def ent (ls : List Int) (o : List Nat) (k : Nat) : Option (List Int) := if k ∈ o then some (wd ls (upTo o k) k) else none
def tabOf (ls : List Int) (o : List Nat) : List (Option (List Int)) := (List.range ls.length).map (ent ls o)
theorem tab_len (ls : List Int) (o : List Nat) : (tabOf ls o).length = ls.length := by simp [tabOf]
theorem tab_at {ls : List Int} {o : List Nat} {k : Nat} (h : k < ls.length) : (tabOf ls o)[k]? = some (ent ls o k) := by
  unfold tabOf
  rw [List.getElem?_map, List.getElem?_range h]
  rfl
theorem tab_nil (ls : List Int) : tabOf ls [] = List.replicate ls.length none := by
  refine List.ext_getElem? fun k => ?_
  by_cases h : k < ls.length
  · rw [tab_at h, List.getElem?_replicate, if_pos h]
    rfl
  · rw [List.getElem?_eq_none (by rw [tab_len]; omega), List.getElem?_eq_none (by rw [List.length_replicate]; omega)]
theorem ent_add {ls : List Int} {o : List Nat} {s k : Nat} (hs : s ∉ o) : ent ls (o ++ [s]) k = if k = s then some (wd ls o s) else ent ls o k := by
  unfold ent
  by_cases e : k = s
  · subst e
    rw [if_pos (List.mem_append_right _ (List.mem_singleton.mpr rfl)), if_pos rfl, upTo_new hs]
  · rw [if_neg e]
    by_cases h : k ∈ o
    · rw [if_pos (List.mem_append_left _ h), if_pos h, upTo_app h]
    · rw [if_neg fun z => ?_, if_neg h]
      rcases List.mem_append.mp z with z | z
      · exact h z
      · exact e (List.mem_singleton.mp z)
/-! ### no word begins another one -/
theorem nodup_sum (f : Nat → Nat) : ∀ (l m : List Nat), l.Nodup → (∀ x ∈ l, x ∈ m) → (l.map f).sum ≤ (m.map f).sum
  | [], _, _, _ => Nat.zero_le _
  | x :: l, m, h, hs => by
    have h' := List.nodup_cons.mp h
    have hx := hs x List.mem_cons_self
    have h1 := nodup_sum f l (m.erase x) h'.2 fun y hy => (List.mem_erase_of_ne (fun e => h'.1 (by rw [← e]; exact hy))).mpr (hs y (List.mem_cons_of_mem _ hy))
    have h2 := ((List.perm_cons_erase hx).map f).sum_nat
    rw [h2]
    simp only [List.map_cons, List.sum_cons]
    omega
theorem IsOrd.nodup {ls : List Int} {o : List Nat} (h : IsOrd ls o) : o.Nodup := h.pw.imp fun {a b} h e => by subst e; exact h.irrefl
theorem kraft_sum : ∀ ls : List Int, (∀ x ∈ ls, 0 ≤ x) → (((List.range ls.length).map fun k => if lnA ls k = 0 then 0 else 2 ^ (20 - lnA ls k)).sum : Nat) = kraft ls
  | [], _ => rfl
  | x :: r, h => by
    have ih := kraft_sum r fun y hy => h y (List.mem_cons_of_mem _ hy)
    have hx := h x List.mem_cons_self
    rw [List.length_cons, List.range_succ_eq_map, List.map_cons, List.map_map, List.sum_cons]
    have e : (fun k => if lnA (x :: r) k = 0 then 0 else 2 ^ (20 - lnA (x :: r) k)) ∘ Nat.succ = fun k => if lnA r k = 0 then 0 else 2 ^ (20 - lnA r k) := by
      funext k
      rfl
    rw [e, Int.natCast_add, ih]
    show _ = share x + kraft r
    congr 1
    show (((if x.toNat = 0 then 0 else 2 ^ (20 - x.toNat)) : Nat) : Int) = share x
    unfold share
    by_cases z : x = 0
    · subst z; rfl
    · rw [if_neg (by omega), if_neg z]
      simp
theorem xs_le {ls : List Int} {o : List Nat} (hl : Lok ls) (h : IsOrd ls o) : (xs ls o : Int) ≤ kraft ls := by
  rw [← kraft_sum ls fun x hx => (hl x hx).1]
  have h1 := nodup_sum (fun k => if lnA ls k = 0 then 0 else 2 ^ (20 - lnA ls k)) o (List.range ls.length) h.nodup fun x hx => List.mem_range.mpr ((h.mem x).mp hx).1
  have h2 : (o.map fun k => if lnA ls k = 0 then 0 else 2 ^ (20 - lnA ls k)) = o.map fun s => 2 ^ (20 - lnA ls s) := by
    refine List.map_congr_left fun k hk => ?_
    have := ((h.mem k).mp hk).2
    rw [if_neg (by omega)]
  rw [h2] at h1
  unfold xs
  exact_mod_cast h1
theorem bits_mod (x y : Nat) : ∀ l, (∀ i, i < l → x / 2 ^ i % 2 = y / 2 ^ i % 2) → x % 2 ^ l = y % 2 ^ l
  | 0, _ => by rw [Nat.pow_zero, Nat.mod_one, Nat.mod_one]
  | l + 1, h => by
    rw [Nat.pow_succ, Nat.mod_mul, Nat.mod_mul, bits_mod x y l fun i hi => h i (by omega), h l (by omega)]
theorem bits_inj {x y l : Nat} (hx : x < 2 ^ l) (hy : y < 2 ^ l) (h : bitsL x l = bitsL y l) : x = y := by
  have h1 := bits_mod x y l fun i hi => by
    have h2 := congrArg (fun z => z[l - 1 - i]?) h
    have h3 : l - 1 - (l - 1 - i) = i := by omega
    simp only [bitsL, List.getElem?_map, List.getElem?_range (show l - 1 - i < l by omega), Option.map_some, h3, Option.some.injEq] at h2
    exact_mod_cast h2
  rwa [Nat.mod_eq_of_lt hx, Nat.mod_eq_of_lt hy] at h1
theorem bits_take {x l m : Nat} (h : m ≤ l) : (bitsL x l).take m = bitsL (x / 2 ^ (l - m)) m := by
  refine List.ext_getElem? fun j => ?_
  by_cases hj : j < m
  · rw [List.getElem?_take_of_lt hj]
    simp only [bitsL, List.getElem?_map, List.getElem?_range (show j < l by omega), List.getElem?_range hj, Option.map_some, Nat.div_div_eq_div_mul, ← Nat.pow_add]
    have : l - m + (m - 1 - j) = l - 1 - j := by omega
    rw [this]
  · rw [List.getElem?_eq_none (by rw [List.length_take, bits_len]; omega), List.getElem?_eq_none (by rw [bits_len]; omega)]
/-- where a symbol stands in the order -/
theorem split_at {o : List Nat} {k : Nat} (h : k ∈ o) : ∃ r, o = upTo o k ++ k :: r := by
  unfold upTo
  induction o with
  | nil => simp at h
  | cons x t ih =>
    by_cases e : x = k
    · subst e
      exact ⟨t, by simp⟩
    · have h' : k ∈ t := by
        rcases List.mem_cons.mp h with z | z
        · exact absurd z.symm e
        · exact z
      obtain ⟨r, hr⟩ := ih h'
      refine ⟨r, ?_⟩
      rw [List.takeWhile_cons_of_pos (by simpa using e), List.cons_append, ← hr]
theorem xs_app (ls : List Int) (a b : List Nat) : xs ls (a ++ b) = xs ls a + xs ls b := by
  unfold xs
  rw [List.map_append, List.sum_append]
theorem upTo_mem {o : List Nat} {k x : Nat} (h : x ∈ upTo o k) : x ∈ o := (List.takeWhile_sublist _).subset h
theorem pos_lt {ls : List Int} {o : List Nat} (hl : Lok ls) (h : IsOrd ls o) (hk : kraft ls ≤ 1048576) {k : Nat} (hm : k ∈ o) : xs ls (upTo o k) + 2 ^ (20 - lnA ls k) ≤ 2 ^ 20 := by
  obtain ⟨r, e⟩ := split_at hm
  have h1 := xs_le hl h
  have h2 : xs ls o = xs ls (upTo o k) + (2 ^ (20 - lnA ls k) + xs ls r) := by
    rw (occs := .pos [1]) [e]
    rw [xs_app]
    simp [xs]
  have h3 : ((xs ls o : Nat) : Int) ≤ 1048576 := by omega
  have h4 : xs ls o ≤ 1048576 := by omega
  have h5 : (2 : Nat) ^ 20 = 1048576 := by decide
  omega
theorem before {ls : List Int} {o : List Nat} (h : IsOrd ls o) {a b : Nat} (ha : a ∈ o) (hb : b ∈ o) (hab : Lx ls a b) : xs ls (upTo o a) + 2 ^ (20 - lnA ls a) ≤ xs ls (upTo o b) := by
  obtain ⟨r, e⟩ := split_at hb
  have ham : a ∈ upTo o b := by
    have h1 : a ∈ upTo o b ++ b :: r := by rw [← e]; exact ha
    rcases List.mem_append.mp h1 with z | z
    · exact z
    · exfalso
      rcases List.mem_cons.mp z with z | z
      · subst z; exact hab.irrefl
      · have h2 := h.pw
        rw [e] at h2
        have h3 := (List.pairwise_cons.mp (List.pairwise_append.mp h2).2.1).1 a z
        exact hab.asymm h3
  obtain ⟨r2, e2⟩ := split_at ham
  have h5 : upTo (upTo o b) a = upTo o a := by
    rw (occs := .pos [2]) [e]
    have : ∀ (t u : List Nat), a ∈ t → upTo (t ++ u) a = upTo t a := fun t u ht => by
      clear e2 ham e h ha hb hab
      unfold upTo
      induction t with
      | nil => simp at ht
      | cons x t ih =>
        by_cases q : x = a
        · subst q; simp
        · have h' : a ∈ t := by
            rcases List.mem_cons.mp ht with z | z
            · exact absurd z.symm q
            · exact z
          simp only [List.cons_append]
          rw [List.takeWhile_cons_of_pos (by simpa using q), List.takeWhile_cons_of_pos (by simpa using q), ih h']
    exact (this _ _ ham).symm
  rw [e2, h5, xs_app]
  have : xs ls (a :: r2) = 2 ^ (20 - lnA ls a) + xs ls r2 := by simp [xs]
  omega
theorem Lx.total {ls : List Int} {k j : Nat} (h : k ≠ j) : Lx ls k j ∨ Lx ls j k := by
  unfold Lx; omega
theorem clash {ls : List Int} {o : List Nat} (hl : Lok ls) (h : IsOrd ls o) (hk : kraft ls ≤ 1048576) {a b : Nat} (ha : a ∈ o) (hb : b ∈ o) (hab : Lx ls a b) (hle : lnA ls a ≤ lnA ls b) : (wd ls (upTo o b) b).take (lnA ls a) ≠ wd ls (upTo o a) a := by
  intro e
  have l1 := ln_le hl a
  have l2 := ln_le hl b
  unfold wd at e
  rw [bits_take hle, Nat.div_div_eq_div_mul, ← Nat.pow_add] at e
  have e1 : 20 - lnA ls b + (lnA ls b - lnA ls a) = 20 - lnA ls a := by omega
  rw [e1] at e
  have p1 := pos_lt hl h hk ha
  have p2 := pos_lt hl h hk hb
  have b1 := before h ha hb hab
  have hp : 0 < 2 ^ (20 - lnA ls a) := Nat.pow_pos (by decide)
  have hp2 : 0 < 2 ^ (20 - lnA ls b) := Nat.pow_pos (by decide)
  have hm : (2 : Nat) ^ 20 = 2 ^ lnA ls a * 2 ^ (20 - lnA ls a) := by rw [← Nat.pow_add]; congr 1; omega
  have q1 : xs ls (upTo o b) / 2 ^ (20 - lnA ls a) < 2 ^ lnA ls a := (Nat.div_lt_iff_lt_mul hp).mpr (by omega)
  have q2 : xs ls (upTo o a) / 2 ^ (20 - lnA ls a) < 2 ^ lnA ls a := (Nat.div_lt_iff_lt_mul hp).mpr (by omega)
  have e2 := bits_inj q1 q2 e
  have q3 : (xs ls (upTo o a) + 2 ^ (20 - lnA ls a)) / 2 ^ (20 - lnA ls a) ≤ xs ls (upTo o b) / 2 ^ (20 - lnA ls a) := Nat.div_le_div_right b1
  rw [Nat.add_div_right _ hp] at q3
  omega
/-- no word is the beginning of another one -/
theorem free {ls : List Int} {o : List Nat} (hl : Lok ls) (h : IsOrd ls o) (hk : kraft ls ≤ 1048576) {a b : Nat} (ha : a ∈ o) (hb : b ∈ o) (hab : a ≠ b) : (wd ls (upTo o b) b).take (lnA ls a) ≠ wd ls (upTo o a) a := by
  rcases Lx.total (ls := ls) hab with z | z
  · exact clash hl h hk ha hb z (by unfold Lx at z; omega)
  · intro e
    have hle : lnA ls b ≤ lnA ls a := by unfold Lx at z; omega
    have h1 : (wd ls (upTo o b) b).length = lnA ls b := bits_len _ _
    have h2 : (wd ls (upTo o a) a).length = lnA ls a := bits_len _ _
    have h3 := congrArg List.length e
    rw [List.length_take, h1, h2] at h3
    have h4 : lnA ls a = lnA ls b := by omega
    have h5 := clash hl h hk hb ha z hle
    apply h5
    rw [← h4, List.take_of_length_le (by rw [h2]; exact Nat.le_refl _), ← e, h4, List.take_of_length_le (by rw [h1]; exact Nat.le_refl _)]
end M01
set_option Elab.async false
set_option linter.all false
set_option maxRecDepth 100000
set_option maxHeartbeats 4000000
namespace K01
open PySem PySem.Spec PyProof.Rows L2 StX GX KC Evl M01
def topS (i : Nat) : Stmt := PySem.Challenge.pw_kraftroom_k01_words_of_a_code.main.body.getD i (.Pass ⟨0, 0, 0, 0⟩)
abbrev s_field_bits : Stmt := topS 1
theorem sc_field_bits : FnScope ["number", "width", "at"] ["number", "width"] (defScope s_field_bits) := ⟨rfl, rfl, rfl, by decide +kernel, rfl, by decide +kernel, by decide +kernel⟩
abbrev s_room : Stmt := topS 4
theorem sc_room : FnScope ["lengths", "depth", "taken"] ["lengths"] (defScope s_room) := ⟨rfl, rfl, rfl, by decide +kernel, rfl, by decide +kernel, by decide +kernel⟩
abbrev s_is_code : Stmt := topS 5
theorem sc_is_code : FnScope ["lengths"] ["lengths"] (defScope s_is_code) := ⟨rfl, rfl, rfl, by decide +kernel, rfl, by decide +kernel, by decide +kernel⟩
abbrev s_words : Stmt := topS 6
theorem sc_words : FnScope ["lengths", "found", "number", "depth", "order", "length", "symbol"] ["lengths"] (defScope s_words) := ⟨rfl, rfl, rfl, by decide +kernel, rfl, by decide +kernel, by decide +kernel⟩
abbrev s_law_cell : Stmt := topS 8
theorem sc_law_cell : FnScope ["script", "k"] ["script", "k"] (defScope s_law_cell) := ⟨rfl, rfl, rfl, by decide +kernel, rfl, by decide +kernel, by decide +kernel⟩
abbrev s_law_lengths : Stmt := topS 9
theorem sc_law_lengths : FnScope ["script", "first", "many", "lengths", "k", "cell", "length"] ["script", "first", "many"] (defScope s_law_lengths) := ⟨rfl, rfl, rfl, by decide +kernel, rfl, by decide +kernel, by decide +kernel⟩
abbrev s_law_room : Stmt := topS 10
theorem sc_law_room : FnScope ["lengths", "left", "length"] ["lengths"] (defScope s_law_room) := ⟨rfl, rfl, rfl, by decide +kernel, rfl, by decide +kernel, by decide +kernel⟩
abbrev s_law_fitting : Stmt := topS 11
theorem sc_law_fitting : FnScope ["lengths", "fitted", "left", "length", "turn"] ["lengths"] (defScope s_law_fitting) := ⟨rfl, rfl, rfl, by decide +kernel, rfl, by decide +kernel, by decide +kernel⟩
abbrev s_law_words : Stmt := topS 12
theorem sc_law_words : FnScope ["lengths", "table", "length", "value", "width", "k", "j"] ["lengths"] (defScope s_law_words) := ⟨rfl, rfl, rfl, by decide +kernel, rfl, by decide +kernel, by decide +kernel⟩
abbrev s_law : Stmt := topS 13
theorem sc_law : FnScope ["script", "many", "lengths", "told", "given", "due", "found", "a", "b"] ["script"] (defScope s_law) := ⟨rfl, rfl, rfl, by decide +kernel, rfl, by decide +kernel, by decide +kernel⟩
structure GT (mg : Str → Option Value) (tk : Tok) : Prop where
  g_LONGEST : mg "LONGEST" = some (.int 20 tk)
section
variable {P : Program} {w : World} {K : PySem.W.Frag} {mg : Str → Option Value} {base : Heap}
theorem ok_cell {f : Addr} {fd : FuncData} {k : Nat} (F : Fun K "_law_cell" "_law_cell" s_law_cell f fd) (B : Bs mg) : FnOk P w K mg base CX0 (k + 1) f fd ["script", "k"] (spCell K) := by
  refine F.ok sc_law_cell (fun vs H Q E h => ?_) (fun cdv A outer s H vs Q E hr h => ?_)
  · obtain ⟨l, ns, j, rfl, _⟩ := h
    rfl
  · obtain ⟨l, ns, j, rfl, hs, q⟩ := h
    refine ⟨_, (pss_cons (ps_if (pt_cmpR op_lt (pv 1) (pe_callB call_len_seq (by rfl) B.len PySem.boot_len (pa_cons (pv 0) pa_nil)) (nomark _)) (pss_one (ps_ret (pe_callTy call_int1 (by rfl) B.int (by decide +kernel) (pa_cons (pe_ix ix_list (pv 0) (pv 1) (fun _ _ => rfl)) pa_nil)))) pss_nil)
      (pss_one (ps_ret pe_int))), ?_⟩
    refine ⟨_, rfl, _, rfl, l, _, rfl, .inl hs, _, _, rfl, rfl, _, rfl, ?_⟩
    by_cases hj : j < ns.length
    · have hd : decide ((j : Int) < ((ns.map V.int).length : Int)) = true := decide_eq_true (by rw [List.length_map]; omega)
      rw [hd]
      exact ⟨_, rfl, _, rfl, l, _, _, _, rfl, rfl, hs, atI_cell hj, .inl ⟨_, rfl, q⟩⟩
    · have hd : decide ((j : Int) < ((ns.map V.int).length : Int)) = false := decide_eq_false (by rw [List.length_map]; omega)
      rw [hd]
      rw [cell_out hj] at q
      exact q
theorem spv_cell {H : Hp} {l : Addr} {ns : List Int} {z : Int} {j : Nat} (hs : SqL K H l (ns.map V.int)) (e : z = (j : Int)) : SpV (spCell K) ([.ref l, .int z] ++ []) H (.int (cellOf ns j)) := fun H1 e1 Q q E => ⟨l, ns, j, by rw [e]; rfl, ex_l e1 hs, q H1 (Ex.refl H1)⟩
/-! the lengths -/
def lenOf (c : Int) : Int := if c % 41 = 5 then 1 + c / 41 % 20 else if c % 7 = 3 then 0 else 1 + c % 6
def lensL (ns : List Int) (first n : Nat) : List Int := (List.range n).map fun k => lenOf (cellOf ns (first + k))
theorem lensL_succ (ns : List Int) (first n : Nat) : lensL ns first (n + 1) = lensL ns first n ++ [lenOf (cellOf ns (first + n))] := by
  unfold lensL
  rw [List.range_succ, List.map_append] <;> rfl
theorem lensL_len (ns : List Int) (first n : Nat) : (lensL ns first n).length = n := by simp [lensL]
theorem lensL_ok (ns : List Int) (first n : Nat) : Lok (lensL ns first n) := fun x hx => by
  obtain ⟨k, _, rfl⟩ := List.mem_map.mp hx
  unfold lenOf
  split
  · omega
  · split <;> omega
def spLengths (K : PySem.W.Frag) : Sp := fun vs H Q _ => ∃ (l : Addr) (ns : List Int) (first n : Nat), vs = [.ref l, .int (first : Int), .int (n : Int)] ∧ SqL K H l (ns.map V.int) ∧ n ≤ 1000 ∧ RetL ((lensL ns first n).map V.int) H Q
theorem ok_lengths {f : Addr} {fd : FuncData} {k : Nat} (F : Fun K "_law_lengths" "_law_lengths" s_law_lengths f fd) (B : Bs mg) (C_law_cell : Cal P w K mg base "_law_cell" 1 ["script", "k"] (spCell K)) : FnOk P w K mg base CX0 (k + 2) f fd ["script", "first", "many"] (spLengths K) := by
  refine F.ok sc_law_lengths (fun vs H Q E h => ?_) (fun cdv A outer s H vs Q E hr h => ?_)
  · obtain ⟨l, ns, first, n, rfl, _⟩ := h
    rfl
  · obtain ⟨l, ns, first, n, rfl, hs, hn, q⟩ := h
    refine ⟨_, (pss_cons (ps_set (i := 3) sc_law_lengths.nd rfl (Or.inl rfl) (pe_lst pa_nil))
      (pss_cons (ps_for PassesOwn.never rfl (pi_range1 (by rfl) B.range (pa_cons (pv 2) pa_nil)) (pg_name (i := 4) sc_law_lengths.nd rfl (Or.inl rfl)) (pss_cons (ps_set (i := 5) sc_law_lengths.nd rfl (Or.inl rfl) (pe_callC C_law_cell (hr.mono (by omega)) (by rfl) (pa_cons (pv 0) (pa_cons (pe_op op_add (pv 1) (pv 4)) pa_nil))))
      (pss_cons (ps_set (i := 6) sc_law_lengths.nd rfl (Or.inl rfl) (pe_op op_add pe_int (pe_op op_mod (pv 5) pe_int)))
      (pss_cons (ps_if (pt_cmpR op_eq (pe_op op_mod (pv 5) pe_int) pe_int (nomark _)) (pss_one (ps_set (i := 6) sc_law_lengths.nd rfl (Or.inl rfl) pe_int)) pss_nil)
      (pss_cons (ps_if (pt_cmpR op_eq (pe_op op_mod (pv 5) pe_int) pe_int (nomark _)) (pss_one (ps_set (i := 6) sc_law_lengths.nd rfl (Or.inl rfl) (pe_op op_add pe_int (pe_op op_mod (pe_op op_fdiv (pv 5) pe_int) pe_int)))) pss_nil)
      (pss_one (ps_expr (pe_bm PySem.F.plainAttrs_list PySem.F.slot_list_append PySem.F.type_list_append mt_append (pv 3) (pa_cons (pv 6) pa_nil)))))))))
      (pss_one (ps_ret (pv 3))))), ?_⟩
    refine q_asgL (el_lst ea_nil (by decide)) fun p H1 hp e1 h1 => ?_
    refine q_forR1 (n := (n : Int)) (ea1 (ev_var rfl)) ⟨by omega, by omega⟩
      (fun i σ H' => ∃ a b c, σ = [some (.ref l), some (.int (first : Int)), some (.int (n : Int)), some (.ref p), a, b, c] ∧ Ex H H' ∧ H' p = some (.lst ((lensL ns first i).map V.int)))
      (fun H2 e2 => ⟨none, none, none, rfl, e1.trans e2, e2 p _ h1⟩) ?_ ?_
    · rintro i σ H' hi ⟨a, b, c, rfl, eh, hl⟩
      have hs' := ex_l eh hs
      refine q_asg (ev_call (ea2 (ev_var rfl) (ev_op (ev_var rfl) (ev_var rfl) rv_I0)) (spv_cell (j := first + i) hs' (by omega))) fun H2 e2 => ?_
      generalize hc : cellOf ns (first + i) = z
      refine q_asg (ev_add ev_c (ev_op (ev_var rfl) ev_c (rv_mod (by decide)))) fun H3 e3 => ?_
      refine q_ifAsg (v := .int (if z % 7 = 3 then 0 else 1 + z % 6)) (et_test (ev_eq (ev_op (ev_var rfl) ev_c (rv_mod (by decide))) ev_c)) (fun hb => ?_) (fun hb => ?_) fun H4 e4 => ?_
      · rw [if_pos (of_decide_eq_true hb)]
        exact ev_c
      · rw [if_neg (of_decide_eq_false hb)]
        rfl
      refine q_ifAsg (v := .int (lenOf z)) (et_test (ev_eq (ev_op (ev_var rfl) ev_c (rv_mod (by decide))) ev_c)) (fun hb => ?_) (fun hb => ?_) fun H5 e5 => ?_
      · unfold lenOf
        rw [if_pos (of_decide_eq_true hb)]
        exact ev_add ev_c (ev_op (ev_op (ev_var rfl) ev_c (rv_div (by decide) (by decide))) ev_c (rv_mod (by decide)))
      · unfold lenOf
        rw [if_neg (of_decide_eq_false hb)]
        rfl
      have e25 : Ex H' H5 := ((e2.trans e3).trans e4).trans e5
      refine s_app (e25 p _ hl) (ev_var rfl) (ev_var rfl) (by rw [List.length_map, lensL_len]; omega) fun H6 e6 => ?_
      refine ⟨_, _, _, rfl, Ex.mut ((eh.trans e25).trans e6) hp, ?_⟩
      rw [upd_same, lensL_succ, hc, List.map_append]
      rfl
    · rintro σ H' ⟨a, b, c, rfl, eh, hl⟩
      have hn' : ((n : Int)).toNat = n := by omega
      rw [hn'] at hl
      exact s_ret (ev_var rfl) fun H2 e2 => q p H2 hp (eh.trans e2) (e2 p _ hl)
/-! room -/
def fS (x : Int) : Int := 1 * 2 ^ (20 - x).toNat
theorem kraft_filter : ∀ ls : List Int, Lok ls → ((ls.filter fun x => !decide (x = 0)).map fS).sum = kraft ls
  | [], _ => rfl
  | x :: r, h => by
    have ih := kraft_filter r fun y hy => h y (List.mem_cons_of_mem _ hy)
    have hx := h x List.mem_cons_self
    have e : kraft (x :: r) = share x + kraft r := rfl
    rw [e, ← ih]
    by_cases z : x = 0
    · subst z
      rw [List.filter_cons, if_neg (by decide)]
      show _ = 0 + _
      rw [Int.zero_add]
    · rw [List.filter_cons, if_pos (by simpa using z), List.map_cons, List.sum_cons]
      have : fS x = share x := by
        unfold fS share
        rw [if_neg z, Int.one_mul]
        congr 1
        omega
      rw [this]
theorem fS_bd {x : Int} (h : 0 ≤ x ∧ x ≤ 20) : 0 ≤ fS x ∧ fS x ≤ 2 ^ 40 := by
  unfold fS
  have : ∀ y : Fin 21, (0 : Int) ≤ 1 * 2 ^ y.val ∧ (1 : Int) * 2 ^ y.val ≤ 2 ^ 40 := by decide
  exact this ⟨(20 - x).toNat, by omega⟩
def spRoom (K : PySem.W.Frag) (Pt : Addr) : Sp := fun vs H Q _ => ∃ (l : Addr) (ls : List Int), vs = [.ref l] ∧ SqL K H l (ls.map V.int) ∧ Lok ls ∧ ls.length ≤ 100 ∧ H Pt = some (TabX Pt) ∧ ∀ H2, Ex H H2 → Q (.int (roomL ls)) H2
theorem ok_room {f c Pt : Addr} {fd : FuncData} {k : Nat} {tk : Tok} (F : FunT K "room" "room" s_room f fd c) (TB : GxR.TabB base mg c Pt) (T : GT mg tk) (B : Bs mg) : FnOk P w K mg base CX0 (k + 7) f fd ["lengths"] (spRoom K Pt) := by
  refine F.ok sc_room (fun vs H Q E h => ?_) (fun A outer s H vs Q E hr h => ?_)
  · obtain ⟨l, ls, rfl, _⟩ := h
    rfl
  · obtain ⟨l, ls, rfl, hs, hok, hn, htab, q⟩ := h
    refine ⟨_, (pss_cons (ps_set (i := 1) sc_room.nd rfl (Or.inr rfl) (pe_callB (cr_max rfl) (by rfl) B.max (by decide +kernel) (pa_cons (pe_lst (pa_cons (pe_glob (v := .int 20) (by rfl) T.g_LONGEST ⟨_, rfl⟩) (pa_star (pv 0) pa_nil))) pa_nil)))
      (pss_cons (ps_set (i := 2) sc_room.nd rfl (Or.inl rfl) (pe_sumG (k := 0) (pgx_gen (g := (gName 0)) (N' := ["length", "depth"]) (cm := [none, some 1]) (own := [0]) (k0 := 0) (k := 0) (hr.mono (by omega)) TB rfl (capOk_by (N := ["lengths", "depth", "taken"]) (sc := defScope s_room) (by decide +kernel)) (pi_list (pv 0)) (fun _ _ _ _ _ _ _ _ _ => (pg_name (i := 0) (show List.Nodup (["length", "depth"] : List Str) by decide +kernel) rfl (Or.inl rfl))) (fun _ _ _ _ _ _ _ _ _ => (pts_one (pt_cmpR op_ne (pv 0) pe_int (nomark _)))) (fun _ _ _ _ _ _ _ _ _ => (pe_op op_shl pe_int (pe_op op_sub (pv 1) (pv 0))))) (hr.mono (by omega)) (by rfl) B.sum))
      (pss_one (ps_ret (pe_op op_shr (pe_op op_sub (pe_op op_shl pe_int (pv 1)) (pv 2)) (pe_op op_sub (pv 1) (pe_glob (v := .int 20) (by rfl) T.g_LONGEST ⟨_, rfl⟩))))))), ?_⟩
    refine q_asg (v := .int 20) (ev_maxStar ev_c (ev_var rfl) hs (fun x hx => (hok x hx).2) (by omega)) fun H1 e1 => ?_
    refine q_asg (v := .int (kraft ls)) ?_ fun H2 e2 => ?_
    · have h1 := ev_sumLF (K := K) (σ := [some (.ref l), some (.int 20), none]) (H := H1) (tl := tVar 0) (tt := tTest (tOp rNe (tVar 0) (tC (.int 0)))) (te := tOp (rI CPow fun i j => .int (i * 2 ^ j.toNat)) (tC (.int 1)) (tOp (rI0 fun i j => .int (i - j)) (tVar 1) (tVar 0))) (Pt := Pt) (cm := [none, some 1]) (own := [0])
        fS (fun x => !decide (x = 0)) (ev_var rfl) (ex_l e1 hs) (by omega) (e1 Pt _ htab) (fun x hx => fS_bd (hok x hx)) (fun x => rfl) (fun x hx H3 e3 => et_test (ev_ne (ev_var rfl) ev_c)) (fun x hx hb H3 e3 => ev_op ev_c (ev_sub (i := 20) (ev_var rfl) (ev_var rfl)) (rv_shl ⟨by have := hok x hx; omega, by have := hok x hx; omega, by decide⟩))
      rw [kraft_filter ls hok] at h1
      exact h1
    · refine s_ret (v := .int (roomL ls)) (ev_is (ev_op (ev_sub (ev_op ev_c (ev_var (v := .int 20) rfl) (rv_shl (by decide))) (ev_var rfl)) (ev_sub (ev_var (v := .int 20) rfl) ev_c) (rv_shr (by decide))) ?_) fun H3 e3 => q H3 ((e1.trans e2).trans e3)
      unfold roomL
      congr 1
      show ((1 : Int) * 2 ^ 20 - kraft ls) / 2 ^ 0 = _
      omega
def codeB (ls : List Int) : Bool := decide (roomL ls ≥ 0) && ls.any fun x => !decide (x = 0)
def spIsCode (K : PySem.W.Frag) (P1 P2 : Addr) : Sp := fun vs H Q _ => ∃ (l : Addr) (ls : List Int), vs = [.ref l] ∧ SqL K H l (ls.map V.int) ∧ Lok ls ∧ ls.length ≤ 100 ∧ H P1 = some (TabX P1) ∧ H P2 = some (TabX P2) ∧ ∀ H2, Ex H H2 → Q (.bl (codeB ls)) H2
theorem sp_room {H : Hp} {l Pt : Addr} {ls : List Int} (hs : SqL K H l (ls.map V.int)) (h : Lok ls) (hn : ls.length ≤ 100) (ht : H Pt = some (TabX Pt)) : SpV (spRoom K Pt) ([.ref l] ++ []) H (.int (roomL ls)) := fun H1 e1 Q q E => ⟨l, ls, rfl, ex_l e1 hs, h, hn, e1 Pt _ ht, q⟩
theorem ok_is_code {f c P1 P2 : Addr} {fd : FuncData} {k : Nat} (F : FunT K "is_code" "is_code" s_is_code f fd c) (TB : GxR.TabB base mg c P2) (B : Bs mg) (C_room : Cal P w K mg base "room" 7 ["lengths"] (spRoom K P1)) : FnOk P w K mg base CX0 (k + 8) f fd ["lengths"] (spIsCode K P1 P2) := by
  refine F.ok sc_is_code (fun vs H Q E h => ?_) (fun A outer s H vs Q E hr h => ?_)
  · obtain ⟨l, ls, rfl, _⟩ := h
    rfl
  · obtain ⟨l, ls, rfl, hs, hok, hn, t1, t2, q⟩ := h
    refine ⟨_, (pss_one (ps_ret (pe_and (pe_cmpR op_ge (pe_callC C_room (hr.mono (by omega)) (by rfl) (pa_cons (pv 0) pa_nil)) pe_int (nomark _)) (pe_one (pe_anyG (k := 0) (pgx_gen (g := (gName 0)) (N' := ["length"]) (cm := [none]) (own := [0]) (k0 := 0) (k := 0) (hr.mono (by omega)) TB rfl (capOk_by (N := ["lengths"]) (sc := defScope s_is_code) (by decide +kernel)) (pi_list (pv 0)) (fun _ _ _ _ _ _ _ _ _ => (pg_name (i := 0) (show List.Nodup (["length"] : List Str) by decide +kernel) rfl (Or.inl rfl))) (fun _ _ _ _ _ _ _ _ _ => pts_nil) (fun _ _ _ _ _ _ _ _ _ => (pe_cmpR op_ne (pv 0) pe_int (nomark _)))) (hr.mono (by omega)) (by rfl) B.any))))), ?_⟩
    exact s_ret (ev_andV (ev_op (ev_call (ea1 (ev_var rfl)) (sp_room hs hok hn t1)) ev_c rv_I0) fun _ => ev_anyL (K := K) (fun x => !decide (x = 0)) (ev_var rfl) hs (by omega) t2 (fun x => rfl) fun x hx H1 e1 => ev_ne (ev_var rfl) ev_c) q
end
end K01
set_option Elab.async false
set_option linter.all false
set_option maxRecDepth 100000
set_option maxHeartbeats 4000000
namespace K01
open PySem PySem.Spec PyProof.Rows L2 StX GX KC Evl M01
section
variable {P : Program} {w : World} {K : PySem.W.Frag} {mg : Str → Option Value} {base : Heap}
/-! bits -/
theorem el_lcDown {σ : L2.St} {H : Hp} {ta : TA} {te : TE} {j : Nat} {vs : List Nat} {a b : Int} {n : Nat} (v : Nat → V) (h : EvA ta σ H [.int a, .int b, .int (-1)]) (hn : (a - b).toNat = n) (ha : -100000 ≤ a ∧ a ≤ 100000) (hb : -100000 ≤ b ∧ b ≤ 100000) (hn2 : n ≤ 40000)
    (hw : ∀ x, wipe ((wipe σ vs).set j (some x)) vs = wipe σ vs) (he : ∀ (i : Nat) H1, Ex H H1 → i < n → Ev te ((wipe σ vs).set j (some (.int (a + (i : Nat) * (-1))))) H1 (v i)) : EvL (tLc (iRng3 ta) (gName j) tYes te vs) σ H ((List.range n).map v) := fun H1 e Q q =>
  h H1 e _ fun H2 e2 => ⟨a, b, -1, n, rfl, by rw [← hn]; exact RgC.neg (by omega) (by omega) (by omega) (by omega), fun Dl hD =>
    ⟨fun i m H' => m + i = n ∧ H2 Dl = none ∧ Ex H2 H' ∧ H' Dl = some (.lst ((List.range i).map v)), ⟨n, by omega, hD, Ex.new hD, upd_same⟩, fun i m H' hW => by
      obtain ⟨hm, hD2, e3, hl⟩ := hW
      by_cases hi : i < n
      · right
        refine ⟨hi, fun H' => (m - 1) + (i + 1) = n ∧ H2 Dl = none ∧ Ex H2 H' ∧ H' Dl = some (.lst ((List.range (i + 1)).map v)), fun H' q => ⟨m - 1, by omega, q⟩, ?_⟩
        rintro x H5 ⟨rfl, rfl⟩
        refine ⟨hw _, tt_yes ?_⟩
        refine he i _ ((e.trans e2).trans e3) hi _ (Ex.refl _) _ fun H6 e6 => ?_
        refine ⟨_, e6 Dl _ hl, sz_lt (by rw [List.length_map, List.length_range]; omega), by omega, hD2, Ex.mut (e3.trans e6) hD2, ?_⟩
        rw [upd_same, List.range_succ, List.map_append]
        rfl
      · left
        have hin : i = n := by omega
        subst hin
        exact ⟨Nat.le_refl _, q Dl H' (fresh_back e2 hD2) (e2.trans e3) hl⟩⟩⟩
def spBits : Sp := fun vs H Q _ => ∃ (x l : Nat), vs = [.int (x : Int), .int (l : Int)] ∧ l ≤ 100 ∧ RetL ((bitsL x l).map V.int) H Q
theorem ok_field_bits {f : Addr} {fd : FuncData} {k : Nat} (F : Fun K "field_bits" "field_bits" s_field_bits f fd) (B : Bs mg) : FnOk P w K mg base CX0 (k + 1) f fd ["number", "width"] spBits := by
  refine F.ok sc_field_bits (fun vs H Q E h => ?_) (fun cdv A outer s H vs Q E hr h => ?_)
  · obtain ⟨x, l, rfl, _⟩ := h
    rfl
  · obtain ⟨x, l, rfl, hl, q⟩ := h
    refine ⟨_, (pss_one (ps_ret (pe_lc rfl sc_field_bits.nd (pi_range3 (by rfl) B.range (pa_cons (pe_op op_sub (pv 1) pe_int) (pa_cons (pe_un un_neg pe_int) (pa_cons (pe_un un_neg pe_int) pa_nil)))) (blkOk_by (own := [("at", 2)]) (N := ["number", "width", "at"]) (sc := defScope s_field_bits) (by decide +kernel)) (fun _ _ _ _ _ => (pg_name (i := 2) sc_field_bits.nd rfl (Or.inl rfl))) (fun _ _ _ _ _ => pts_nil) (fun _ _ _ _ _ => (pe_op op_and (pe_op op_shr (pv 0) (pv 2)) pe_int))))), ?_⟩
    refine s_retL ?_ q
    have e : (bitsL x l).map V.int = (List.range l).map fun j => V.int ((x / 2 ^ (l - 1 - j) % 2 : Nat) : Int) := by
      unfold bitsL
      rw [List.map_map]
      rfl
    rw [e]
    refine el_lcDown (a := (l : Int) - 1) (b := -1) _ (ea3 (ev_sub (ev_var rfl) ev_c) (ev_un (x := .int 1) ev_c ru_neg) (ev_un (x := .int 1) ev_c ru_neg)) (by omega) (by omega) (by omega) (by omega) (fun x => rfl) fun i H1 e1 hi => ?_
    have ei : (l : Int) - 1 + (i : Nat) * (-1) = ((l - 1 - i : Nat) : Int) := by omega
    rw [ei]
    refine ev_is (ev_op (ev_op (ev_var (v := .int (x : Int)) rfl) (ev_var (v := .int ((l - 1 - i : Nat) : Int)) rfl) (rv_shr (by omega))) ev_c rv_I0) ?_
    rw [bitAnd_m1, Int.toNat_natCast]
    congr 1
/-! the law's room -/
def spLawRoom (K : PySem.W.Frag) : Sp := fun vs H Q _ => ∃ (l : Addr) (ls : List Int), vs = [.ref l] ∧ SqL K H l (ls.map V.int) ∧ Lok ls ∧ ls.length ≤ 100 ∧ ∀ H2, Ex H H2 → Q (.int (roomL ls)) H2
theorem kraft_take {ls : List Int} {i : Nat} (h : i < ls.length) : kraft (ls.take (i + 1)) = kraft (ls.take i) + share (ls.getD i 0) := by
  have hxi : ls.getD i 0 = ls[i] := by rw [List.getD_eq_getElem?_getD, List.getElem?_eq_getElem h] <;> rfl
  have htk : ls.take (i + 1) = ls.take i ++ [ls.getD i 0] := by rw [hxi]; exact (List.take_append_getElem h).symm
  rw [htk, kraft_app]
  congr 1
  show share _ + 0 = _
  rw [Int.add_zero]
theorem pos20 {x : Int} (h : 0 ≤ x ∧ x ≤ 20) : 0 < (1 : Int) * 2 ^ x.toNat ∧ (1 : Int) * 2 ^ x.toNat < 1073741824 := by
  have : ∀ y : Fin 21, (0 : Int) < 1 * 2 ^ y.val ∧ (1 : Int) * 2 ^ y.val < 1073741824 := by decide
  exact this ⟨x.toNat, by omega⟩
theorem share_div {x : Int} (h : 0 ≤ x ∧ x ≤ 20) (h0 : 0 < x) : (1048576 : Int) / (1 * 2 ^ x.toNat) = share x := by
  rw [pow20 x.toNat (by omega)]
  unfold share
  rw [if_neg (by omega)]
/-- 1048576 // (1 << x) -/
theorem ev_share {σ : L2.St} {H : Hp} {ta tb tc : TE} {x : Int} (h1 : Ev ta σ H (.int 1048576)) (h2 : Ev tb σ H (.int 1)) (h3 : Ev tc σ H (.int x)) (h : 0 ≤ x ∧ x ≤ 20) (h0 : 0 < x) : Ev (tOp (rI CDiv fun i j => .int (i / j)) ta (tOp (rI CPow fun i j => .int (i * 2 ^ j.toNat)) tb tc)) σ H (.int (share x)) :=
  ev_is (ev_op h1 (ev_op h2 h3 (rv_shl ⟨by omega, by omega, by decide⟩)) (rv_div (pos20 h).1 (pos20 h).2)) (by rw [share_div h h0])
theorem ok_law_room {f : Addr} {fd : FuncData} {k : Nat} (F : Fun K "_law_room" "_law_room" s_law_room f fd) (B : Bs mg) : FnOk P w K mg base CX0 (k + 1) f fd ["lengths"] (spLawRoom K) := by
  refine F.ok sc_law_room (fun vs H Q E h => ?_) (fun cdv A outer s H vs Q E hr h => ?_)
  · obtain ⟨l, ls, rfl, _⟩ := h
    rfl
  · obtain ⟨l, ls, rfl, hs, hok, hn, q⟩ := h
    refine ⟨_, (pss_cons (ps_set (i := 1) sc_law_room.nd rfl (Or.inl rfl) pe_int)
      (pss_cons (ps_for PassesOwn.never rfl (pi_list (pv 0)) (pg_name (i := 2) sc_law_room.nd rfl (Or.inl rfl)) (pss_one (ps_if (pt_cmpR op_gt (pv 2) pe_int (nomark _)) (pss_one (ps_set (i := 1) sc_law_room.nd rfl (Or.inl rfl) (pe_op op_sub (pv 1) (pe_op op_fdiv pe_int (pe_op op_shl pe_int (pv 2)))))) pss_nil)))
      (pss_one (ps_ret (pv 1))))), ?_⟩
    refine q_asg ev_c fun H1 e1 => ?_
    refine q_forL (ev_var rfl) (ex_l e1 hs) (fun i σ H' => ∃ c, σ = [some (.ref l), some (.int (1048576 - kraft (ls.take i))), c] ∧ Ex H H') (fun H2 e2 => ⟨none, rfl, e1.trans e2⟩)
      (fun i σ H' _ hP => by
        obtain ⟨c, _, eh⟩ := hP
        exact ex_l eh hs) ?_ ?_
    · rintro i x σ H' hi ⟨c, rfl, eh⟩
      have hil : i < ls.length := by
        have := (List.getElem?_eq_some_iff.mp hi).1
        rwa [List.length_map] at this
      have hx : x = .int (ls.getD i 0) := by
        rw [int_at hil] at hi
        exact (Option.some.inj hi).symm
      subst hx
      have hxi : ls.getD i 0 = ls[i] := by rw [List.getD_eq_getElem?_getD, List.getElem?_eq_getElem hil] <;> rfl
      have hb := hok _ (List.getElem_mem hil)
      rw [← hxi] at hb
      refine s_ifAsg (v := .int (1048576 - kraft (ls.take (i + 1)))) (et_test (ev_op (ev_var rfl) ev_c rv_I0)) (fun hp => ?_) (fun hp => ?_) fun H2 e2 => ⟨_, rfl, eh.trans e2⟩
      · have h0 : 0 < ls.getD i 0 := of_decide_eq_true hp
        exact ev_is (ev_sub (ev_var rfl) (ev_share ev_c ev_c (ev_var rfl) hb h0)) (by rw [kraft_take hil]; congr 1; omega)
      · have h0 : ¬ 0 < ls.getD i 0 := of_decide_eq_false hp
        have h1 : ls.getD i 0 = 0 := by omega
        have h2 : share (ls.getD i 0) = 0 := by rw [h1]; rfl
        rw [kraft_take hil, h2, Int.add_zero]
        rfl
    · rintro σ H' ⟨c, rfl, eh⟩
      rw [List.length_map, List.take_length]
      exact s_ret (ev_var rfl) fun H2 e2 => q H2 (eh.trans e2)
/-! the lengths are made to fit -/
structure Fit (fs : List Int) (n : Nat) : Prop where
  len : fs.length = n
  ok : Lok fs
  kr : kraft fs ≤ 1048576
  pos : ∃ x ∈ fs, 0 < x
def spFit (K : PySem.W.Frag) : Sp := fun vs H Q _ => ∃ (l : Addr) (ls : List Int), vs = [.ref l] ∧ SqL K H l (ls.map V.int) ∧ Lok ls ∧ ls.length ≤ 100 ∧ 0 < ls.length ∧ ∀ p H2 fs, H p = none → Ex H H2 → H2 p = some (.lst (fs.map V.int)) → Fit fs ls.length → Q (.ref p) H2
theorem kraft_one (x : Int) : kraft [x] = share x := by
  show share x + 0 = _
  rw [Int.add_zero]
theorem ok_law_fitting {f : Addr} {fd : FuncData} {k : Nat} (F : Fun K "_law_fitting" "_law_fitting" s_law_fitting f fd) (B : Bs mg) : FnOk P w K mg base CX0 (k + 1) f fd ["lengths"] (spFit K) := by
  refine F.ok sc_law_fitting (fun vs H Q E h => ?_) (fun cdv A outer s H vs Q E hr h => ?_)
  · obtain ⟨l, ls, rfl, _⟩ := h
    rfl
  · obtain ⟨l, ls, rfl, hs, hok, hn, hn0, q⟩ := h
    refine ⟨_, (pss_cons (ps_set (i := 1) sc_law_fitting.nd rfl (Or.inl rfl) (pe_lst pa_nil))
      (pss_cons (ps_set (i := 2) sc_law_fitting.nd rfl (Or.inl rfl) pe_int)
      (pss_cons (ps_for PassesOwn.never rfl (pi_list (pv 0)) (pg_name (i := 3) sc_law_fitting.nd rfl (Or.inl rfl)) (pss_cons (ps_for PassesOwn.never rfl (pi_range1 (by rfl) B.range (pa_cons pe_int pa_nil)) (pg_name (i := 4) sc_law_fitting.nd rfl (Or.inl rfl)) (pss_one (ps_if (PW.pt (pw_and (pt_chain op_lt op_lt pe_int (pv 3) pe_int) (pw_and1 (pt_cmpR op_gt (pe_op op_fdiv pe_int (pe_op op_shl pe_int (pv 3))) (pv 2) (nomark _))))) (pss_one (ps_set (i := 3) sc_law_fitting.nd rfl (Or.inl rfl) (pe_op op_add (pv 3) pe_int))) pss_nil)))
      (pss_cons (ps_if (PW.pt (pw_and (pt_cmpR op_gt (pv 3) pe_int (nomark _)) (pw_and1 (pt_cmpR op_gt (pe_op op_fdiv pe_int (pe_op op_shl pe_int (pv 3))) (pv 2) (nomark _))))) (pss_one (ps_set (i := 3) sc_law_fitting.nd rfl (Or.inl rfl) pe_int)) pss_nil)
      (pss_cons (ps_if (pt_cmpR op_gt (pv 3) pe_int (nomark _)) (pss_one (ps_set (i := 2) sc_law_fitting.nd rfl (Or.inl rfl) (pe_op op_sub (pv 2) (pe_op op_fdiv pe_int (pe_op op_shl pe_int (pv 3)))))) pss_nil)
      (pss_one (ps_expr (pe_bm PySem.F.plainAttrs_list PySem.F.slot_list_append PySem.F.type_list_append mt_append (pv 1) (pa_cons (pv 3) pa_nil))))))))
      (pss_cons (ps_if (pt_cmpR op_eq (pe_callB (cr_max rfl) (by rfl) B.max (by decide +kernel) (pa_cons (pv 1) pa_nil)) pe_int (nomark _)) (pss_one (ps_asg pe_int (pg_sub (pv 1) pe_int set_list))) pss_nil)
      (pss_one (ps_ret (pv 1))))))), ?_⟩
    refine q_asgL (el_lst ea_nil (by decide)) fun p H1 hp e1 h1 => ?_
    refine q_asg ev_c fun H2 e2 => ?_
    refine q_forL (ev_var rfl) (ex_l (e1.trans e2) hs) (fun i σ H' => ∃ (fs : List Int) (a b : Option V), σ = [some (.ref l), some (.ref p), some (.int (1048576 - kraft fs)), a, b] ∧ Ex H H' ∧ H' p = some (.lst (fs.map V.int)) ∧ fs.length = i ∧ Lok fs ∧ kraft fs ≤ 1048576)
      (fun H3 e3 => ⟨[], none, none, rfl, (e1.trans e2).trans e3, e3 p _ (e2 p _ h1), rfl, fun x hx => absurd hx List.not_mem_nil, by decide⟩)
      (fun i σ H' _ hP => by
        obtain ⟨fs, a, b, _, eh, _⟩ := hP
        exact ex_l eh hs) ?_ ?_
    · rintro i x σ H' hi ⟨fs, a, b, rfl, eh, hl, hfl, hfo, hfk⟩
      have hil : i < ls.length := by
        have := (List.getElem?_eq_some_iff.mp hi).1
        rwa [List.length_map] at this
      have hx : x = .int (ls.getD i 0) := by
        rw [int_at hil] at hi
        exact (Option.some.inj hi).symm
      subst hx
      have hxi : ls.getD i 0 = ls[i] := by rw [List.getD_eq_getElem?_getD, List.getElem?_eq_getElem hil] <;> rfl
      have hb := hok _ (List.getElem_mem hil)
      rw [← hxi] at hb
      refine q_forR1 (n := 20) (ea1 ev_c) ⟨by decide, by decide⟩
        (fun j σ H3 => ∃ (y : Int) (b : Option V), σ = [some (.ref l), some (.ref p), some (.int (1048576 - kraft fs)), some (.int y), b] ∧ Ex H H3 ∧ H3 p = some (.lst (fs.map V.int)) ∧ 0 ≤ y ∧ y ≤ 20)
        (fun H3 e3 => ⟨_, b, rfl, eh.trans e3, e3 p _ hl, hb.1, hb.2⟩) ?_ ?_
      · rintro j σ H3 hj ⟨y, b, rfl, eh3, hl3, y0, y20⟩
        refine s_ifAsg (v := .int (if 0 < y ∧ y < 20 ∧ share y > 1048576 - kraft fs then y + 1 else y)) (b := (decide (0 < y) && decide (y < 20)) && decide (share y > 1048576 - kraft fs)) (et_and (et_test (ev_chain ev_c (ev_var rfl) rv_I0 (fun _ => ev_c) (fun _ => rv_I0))) fun hc => ?_) (fun hc => ?_) (fun hc => ?_) fun H4 e4 => ?_
        · simp only [Bool.and_eq_true, decide_eq_true_eq] at hc
          exact et_test (ev_op (ev_share ev_c ev_c (ev_var rfl) ⟨y0, y20⟩ hc.1) (ev_var rfl) rv_I0)
        · simp only [Bool.and_eq_true, decide_eq_true_eq] at hc
          rw [if_pos ⟨hc.1.1, hc.1.2, hc.2⟩]
          exact ev_add (ev_var rfl) ev_c
        · rw [if_neg (fun z => ?_)]
          · rfl
          · rw [decide_eq_true z.1, decide_eq_true z.2.1, decide_eq_true z.2.2] at hc
            cases hc
        · refine ⟨_, _, rfl, eh3.trans e4, e4 p _ hl3, ?_⟩
          split <;> omega
      · rintro σ H3 ⟨y, b, rfl, eh3, hl3, y0, y20⟩
        refine q_ifAsg (v := .int (if 0 < y ∧ share y > 1048576 - kraft fs then 0 else y)) (b := decide (0 < y) && decide (share y > 1048576 - kraft fs)) (et_and (et_test (ev_op (ev_var rfl) ev_c rv_I0)) fun hc => et_test (ev_op (ev_share ev_c ev_c (ev_var rfl) ⟨y0, y20⟩ (of_decide_eq_true hc)) (ev_var rfl) rv_I0)) (fun hc => ?_) (fun hc => ?_) fun H4 e4 => ?_
        · simp only [Bool.and_eq_true, decide_eq_true_eq] at hc
          rw [if_pos hc]
          exact ev_c
        · rw [if_neg (fun z => ?_)]
          · rfl
          · rw [decide_eq_true z.1, decide_eq_true z.2] at hc
            cases hc
        have hz : ∃ z, (if 0 < y ∧ share y > 1048576 - kraft fs then 0 else y) = z ∧ 0 ≤ z ∧ z ≤ 20 ∧ share z ≤ 1048576 - kraft fs := by
          by_cases c : 0 < y ∧ share y > 1048576 - kraft fs
          · refine ⟨0, if_pos c, by omega, by omega, ?_⟩
            show (0 : Int) ≤ _
            omega
          · refine ⟨y, if_neg c, y0, y20, ?_⟩
            by_cases c2 : 0 < y
            · have : ¬ share y > 1048576 - kraft fs := fun z => c ⟨c2, z⟩
              omega
            · have : y = 0 := by omega
              subst this
              show (0 : Int) ≤ _
              omega
        obtain ⟨z, ez, z0, z20, zs⟩ := hz
        rw [ez]
        have hkz : kraft (fs ++ [z]) = kraft fs + share z := by rw [kraft_app, kraft_one]
        refine q_ifAsg (v := .int (1048576 - kraft (fs ++ [z]))) (et_test (ev_op (ev_var rfl) ev_c rv_I0)) (fun hc => ?_) (fun hc => ?_) fun H5 e5 => ?_
        · exact ev_is (ev_sub (ev_var rfl) (ev_share ev_c ev_c (ev_var rfl) ⟨z0, z20⟩ (of_decide_eq_true hc))) (by rw [hkz]; congr 1; omega)
        · have h1 : ¬ 0 < z := of_decide_eq_false hc
          have h2 : z = 0 := by omega
          have h3 : share z = 0 := by rw [h2]; rfl
          rw [hkz, h3, Int.add_zero]
          rfl
        refine s_app ((e4.trans e5) p _ hl3) (ev_var rfl) (ev_var rfl) (by rw [List.length_map]; omega) fun H6 e6 => ?_
        refine ⟨fs ++ [z], _, _, rfl, Ex.mut (((eh3.trans e4).trans e5).trans e6) hp, ?_, by simp [hfl], fun x hx => ?_, by rw [hkz]; omega⟩
        · rw [upd_same, List.map_append]
          rfl
        · rcases List.mem_append.mp hx with h | h
          · exact hfo x h
          · rw [List.mem_singleton.mp h]
            exact ⟨z0, z20⟩
    · rintro σ H' ⟨fs, a, b, rfl, eh, hl, hfl, hfo, hfk⟩
      rw [List.length_map] at hfl
      have hne : fs ≠ [] := fun z => by rw [z] at hfl; simp at hfl; omega
      obtain ⟨m, hm, hmax⟩ := max_of fs hne
      refine q_when (et_test (ev_eq (ev_maxL (ev_var rfl) (sq_of hl) hm hmax) ev_c)) (fun hb H3 e3 => ?_) (fun hb H3 e3 => ?_)
      · have hm0 : m = 0 := of_decide_eq_true hb
        subst hm0
        have hall : ∀ x ∈ fs, x = 0 := fun x hx => by
          have h1 := hmax x hx
          have h2 := (hfo x hx).1
          omega
        refine s_setL (j := 0) (e3 p _ hl) ev_c (ev_var rfl) ev_c (by rw [List.length_map]; omega) fun H4 e4 => ?_
        have hset : (fs.map V.int).set 0 (.int 3) = (fs.set 0 3).map V.int := by
          cases fs with
          | nil => exact absurd rfl hne
          | cons x r => rfl
        rw [hset]
        refine s_ret (ev_var rfl) fun H5 e5 => q p H5 (fs.set 0 3) hp (Ex.trans (Ex.mut ((eh.trans e3).trans e4) hp) e5) (e5 p _ upd_same) ?_
        cases fs with
        | nil => exact absurd rfl hne
        | cons x r =>
          refine ⟨by simpa using hfl, fun y hy => ?_, ?_, ⟨3, List.mem_cons_self, by decide⟩⟩
          · rcases List.mem_cons.mp hy with h | h
            · omega
            · exact hfo y (List.mem_cons_of_mem _ h)
          · show share 3 + kraft r ≤ _
            rw [kraft_zero r fun y hy => hall y (List.mem_cons_of_mem _ hy)]
            decide
      · have hm0 : m ≠ 0 := of_decide_eq_false hb
        have h2 := (hfo m hm).1
        exact s_ret (ev_var rfl) fun H5 e5 => q p H5 fs hp ((eh.trans e3).trans e5) ((e3.trans e5) p _ hl) ⟨hfl, hfo, hfk, ⟨m, hm, by omega⟩⟩
end
end K01
set_option Elab.async false
set_option linter.all false
set_option maxRecDepth 100000
set_option maxHeartbeats 4000000
/-! Pairs (a key, a symbol) in a list, sorted. -/
namespace KC
open PySem PySem.Spec PyProof.Rows L2 StX GX Evl
def PrG (key : Nat → Int) (H : Hp) (ys : List V) (o : List Nat) : Prop := ys.length = o.length ∧ ∀ (j s : Nat), o[j]? = some s → ∃ t, ys[j]? = some (.ref t) ∧ H t = some (.tup [.int (key s), .int (s : Int)])
section
variable {key : Nat → Int} {H H' : Hp} {ys zs : List V} {o : List Nat}
theorem PrG.nil : PrG key H [] [] := ⟨rfl, fun j s h => by simp at h⟩
theorem PrG.ext (e : Ex H H') (h : PrG key H ys o) : PrG key H' ys o := ⟨h.1, fun j s hj => by
  obtain ⟨t, h1, h2⟩ := h.2 j s hj
  exact ⟨t, h1, e t _ h2⟩⟩
theorem PrG.put {p : Addr} {us ws : List V} (hp : H p = some (.lst us)) (h : PrG key H ys o) : PrG key (upd H p (.lst ws)) ys o := ⟨h.1, fun j s hj => by
  obtain ⟨t, h1, h2⟩ := h.2 j s hj
  exact ⟨t, h1, by rw [upd_ne (fun z => by rw [z, hp] at h2; cases h2)]; exact h2⟩⟩
theorem PrG.add {t : Addr} {s : Nat} (h : PrG key H ys o) (ht : H t = some (.tup [.int (key s), .int (s : Int)])) : PrG key H (ys ++ [.ref t]) (o ++ [s]) := by
  refine ⟨by rw [List.length_append, List.length_append, h.1] <;> rfl, fun j u hj => ?_⟩
  by_cases e : j < o.length
  · rw [List.getElem?_append_left e] at hj
    obtain ⟨w, h1, h2⟩ := h.2 j u hj
    exact ⟨w, by rw [List.getElem?_append_left (by rw [h.1]; exact e)]; exact h1, h2⟩
  · rw [List.getElem?_append_right (by omega)] at hj
    have hj0 : j - o.length = 0 := by
      have := (List.getElem?_eq_some_iff.mp hj).1
      simp at this
      omega
    rw [hj0] at hj
    have hu : s = u := by simpa using hj
    subst hu
    exact ⟨t, by rw [List.getElem?_append_right (by rw [h.1]; omega), h.1, hj0]; rfl, ht⟩
def keyOf (H : Hp) : V → Int × Int
  | .ref t => match H t with
    | some (.tup [.int a, .int b]) => (a, b)
    | _ => (0, 0)
  | _ => (0, 0)
theorem keyOf_tup {t : Addr} {a b : Int} (h : H t = some (.tup [.int a, .int b])) : keyOf H (.ref t) = (a, b) := by
  show (match H t with | some (.tup [.int a, .int b]) => (a, b) | _ => ((0 : Int), (0 : Int))) = _
  rw [h]
def symOf (H : Hp) (z : V) : Nat := (keyOf H z).2.toNat
theorem PrG.mem (h : PrG key H ys o) {z : V} (hz : z ∈ ys) : ∃ s t, s ∈ o ∧ z = .ref t ∧ H t = some (.tup [.int (key s), .int (s : Int)]) ∧ symOf H z = s := by
  obtain ⟨j, hj⟩ := List.mem_iff_getElem?.mp hz
  have hjl : j < o.length := by rw [← h.1]; exact (List.getElem?_eq_some_iff.mp hj).1
  obtain ⟨t, h1, h2⟩ := h.2 j _ (List.getElem?_eq_getElem hjl)
  rw [hj] at h1
  have e := Option.some.inj h1
  subst e
  exact ⟨_, t, List.getElem_mem hjl, rfl, h2, by unfold symOf; rw [keyOf_tup h2]; simp⟩
theorem PrG.syms (h : PrG key H ys o) : ys.map (symOf H) = o := by
  refine List.ext_getElem? fun j => ?_
  rw [List.getElem?_map]
  by_cases hj : j < o.length
  · obtain ⟨t, h1, h2⟩ := h.2 j _ (List.getElem?_eq_getElem hj)
    rw [h1, List.getElem?_eq_getElem hj]
    show some (symOf H (.ref t)) = _
    unfold symOf
    rw [keyOf_tup h2]
    simp
  · rw [List.getElem?_eq_none (by rw [h.1]; omega), List.getElem?_eq_none (by omega)]
    rfl
theorem PrG.sorted (h : PrG key H ys o) (hp : zs.Perm ys) (hs : SrtO.Srtd (ltP (keyOf H)) zs) (hn : o.Nodup) :
    PrG key H zs (zs.map (symOf H)) ∧ (zs.map (symOf H)).Perm o ∧ (zs.map (symOf H)).Pairwise fun a b => key a < key b ∨ (key a = key b ∧ a < b) := by
  have hperm : (zs.map (symOf H)).Perm o := by
    have := hp.map (symOf H)
    rwa [h.syms] at this
  refine ⟨⟨(List.length_map _).symm, fun j s hj => ?_⟩, hperm, ?_⟩
  · rw [List.getElem?_map] at hj
    cases hz : zs[j]? with
    | none => rw [hz] at hj; cases hj
    | some z =>
      rw [hz] at hj
      obtain ⟨s1, t, _, rfl, ht, es⟩ := h.mem (hp.mem_iff.mp (List.mem_of_getElem? hz))
      have e2 : s1 = s := by rw [← es]; exact Option.some.inj hj
      subst e2
      exact ⟨t, rfl, ht⟩
  · have hnd : (zs.map (symOf H)).Nodup := hperm.nodup_iff.mpr hn
    have hnd2 : zs.Pairwise fun a b => symOf H a ≠ symOf H b := List.pairwise_map.mp hnd
    refine List.pairwise_map.mpr ?_
    refine List.Pairwise.imp_of_mem (fun {a b} ha hb hab => ?_) (hs.and hnd2)
    obtain ⟨s1, t1, _, rfl, ht1, es1⟩ := h.mem (hp.mem_iff.mp ha)
    obtain ⟨s2, t2, _, rfl, ht2, es2⟩ := h.mem (hp.mem_iff.mp hb)
    obtain ⟨h4, h5⟩ := hab
    have h6 := SrtO.lexB_no.mp h4
    rw [keyOf_tup ht1, keyOf_tup ht2] at h6
    rw [es1, es2] at h5 ⊢
    simp only at h6
    omega
end
section
variable {K : PySem.W.Frag} {σ : L2.St} {H H' : Hp} {ta tb te : TE} {D : Ends} {tz : TS}
/-- sorted((key, symbol) for symbol, w in enumerate(xs) if ..): what comes of it -/
theorem tSort_use {ys : List V} {key : Nat → Int} {o : List Nat} {H1 : Hp} {R : Addr → Hp → Prop} (h : PrG key H1 ys o) (hn : o.Nodup) (q : ∀ p zs o', H1 p = none → PrG key (upd H1 p (.lst zs)) zs o' → o'.Perm o → (o'.Pairwise fun a b => key a < key b ∨ (key a = key b ∧ a < b)) → R p (upd H1 p (.lst zs))) :
    ∀ p, H1 p = none → rSortPO (.ref p) [] (upd H1 p (.lst ys)) fun _ H2 => R p H2 := fun p hp => by
  have e1 : Ex H1 (upd H1 p (.lst ys)) := Ex.new hp
  refine ⟨p, ys, keyOf H1, rfl, rfl, upd_same, fun y hy => ?_, fun zs hsr hst => ?_⟩
  · obtain ⟨s, t, _, rfl, ht, _⟩ := h.mem hy
    refine ⟨t, rfl, ?_⟩
    rw [keyOf_tup ht]
    exact e1 t _ ht
  · have hov : upd (upd H1 p (.lst ys)) p (.lst zs) = upd H1 p (.lst zs) := by
      funext b
      by_cases e : b = p
      · rw [e, upd_same, upd_same]
      · rw [upd_ne e, upd_ne e, upd_ne e]
    rw [hov]
    obtain ⟨h1, h2, h3⟩ := h.sorted hst.perm hsr hn
    exact q p zs _ hp (h1.ext (Ex.new hp)) h2 h3
/-- xs[i] = a new list -/
theorem s_setLL {l : Addr} {xs ys : List V} {j : Nat} (hl : H l = some (.lst xs)) (h : EvL te σ H ys) (ho : Ev ta σ H (.ref l)) (hi : Ev tb σ H (.int (j : Int))) (hj : j < xs.length) (k : ∀ p H1, H p = none → Ex H H1 → H1 p = some (.lst ys) → D.nx σ (upd H1 l (.lst (xs.set j (.ref p))))) :
    tAsg te (gSub ta tb rSetL) D σ H := h H (Ex.refl H) _ fun p H1 hp e1 h1 => ho H1 e1 _ fun H2 e2 => hi H2 (e1.trans e2) _ fun H3 e3 =>
  ⟨l, xs, (j : Int), j, rfl, rfl, ((e1.trans e2).trans e3) l _ hl, ixN_nat hj, k p H3 hp ((e1.trans e2).trans e3) ((e2.trans e3) p _ h1)⟩
theorem q_setLL {l : Addr} {xs ys : List V} {j : Nat} (hl : H l = some (.lst xs)) (h : EvL te σ H ys) (ho : Ev ta σ H (.ref l)) (hi : Ev tb σ H (.int (j : Int))) (hj : j < xs.length) (k : ∀ p H1, H p = none → Ex H H1 → H1 p = some (.lst ys) → tz D σ (upd H1 l (.lst (xs.set j (.ref p))))) :
    tSeq (tAsg te (gSub ta tb rSetL)) tz D σ H := s_setLL (D := { D with nx := tz D }) hl h ho hi hj k
theorem flat_rep (n : Nat) (v : V) : (List.replicate n [v]).flatten = List.replicate n v := by
  induction n with
  | zero => rfl
  | succ n ih => rw [List.replicate_succ, List.replicate_succ, List.flatten_cons, ih] <;> rfl
end
end KC
set_option Elab.async false
set_option linter.all false
set_option maxRecDepth 100000
set_option maxHeartbeats 4000000
namespace K01
open PySem PySem.Spec PyProof.Rows L2 StX GX KC Evl M01
/-! ### tables of words -/
def InV (p : Addr) (H0 H : Hp) (v : V) : Option (List Int) → Prop
  | none => v = .non
  | some bs => ∃ r : Addr, v = .ref r ∧ r ≠ p ∧ H0 r = none ∧ H r = some (.lst (bs.map V.int))
def TabF (p : Addr) (H0 H : Hp) (vs : List V) (tab : List (Option (List Int))) : Prop := vs.length = tab.length ∧ ∀ (k : Nat) v o, vs[k]? = some v → tab[k]? = some o → InV p H0 H v o
theorem InV.ext {p : Addr} {H0 H H' : Hp} {v : V} {o : Option (List Int)} (e : Ex H H') (h : InV p H0 H v o) : InV p H0 H' v o := by
  cases o with
  | none => exact h
  | some bs =>
    obtain ⟨r, h1, h2, h3, h4⟩ := h
    exact ⟨r, h1, h2, h3, e r _ h4⟩
theorem InV.put {p : Addr} {H0 H : Hp} {v : V} {o : Option (List Int)} {ws : List V} (h : InV p H0 H v o) : InV p H0 (upd H p (.lst ws)) v o := by
  cases o with
  | none => exact h
  | some bs =>
    obtain ⟨r, h1, h2, h3, h4⟩ := h
    exact ⟨r, h1, h2, h3, by rw [upd_ne h2]; exact h4⟩
theorem TabF.ext {p : Addr} {H0 H H' : Hp} {vs : List V} {tab : List (Option (List Int))} (e : Ex H H') (h : TabF p H0 H vs tab) : TabF p H0 H' vs tab := ⟨h.1, fun k v o h1 h2 => (h.2 k v o h1 h2).ext e⟩
theorem TabF.none {p : Addr} {H0 H : Hp} (n : Nat) : TabF p H0 H (List.replicate n .non) (List.replicate n none) := ⟨by rw [List.length_replicate, List.length_replicate], fun k v o h1 h2 => by
  have e1 := List.eq_of_mem_replicate (List.mem_of_getElem? h1)
  have e2 := List.eq_of_mem_replicate (List.mem_of_getElem? h2)
  subst e1 e2
  rfl⟩
/-- a word is put into the table -/
theorem TabF.set {ls : List Int} {p r : Addr} {H0 H : Hp} {vs : List V} {o : List Nat} {s : Nat} (h : TabF p H0 H vs (tabOf ls o)) (hs : s ∉ o) (hr : r ≠ p) (h0 : H0 r = Option.none) (hl : H r = some (.lst ((wd ls o s).map V.int))) : TabF p H0 (upd H p (.lst (vs.set s (.ref r)))) (vs.set s (.ref r)) (tabOf ls (o ++ [s])) := by
  refine ⟨by rw [List.length_set, h.1, tab_len, tab_len], fun k v ob h1 h2 => ?_⟩
  have hk : k < ls.length := by
    have := (List.getElem?_eq_some_iff.mp h2).1
    rwa [tab_len] at this
  rw [tab_at hk, ent_add hs] at h2
  by_cases e : k = s
  · subst e
    rw [if_pos rfl] at h2
    have e2 := Option.some.inj h2
    subst e2
    rw [List.getElem?_set_self (by have := h.1; rw [tab_len] at this; omega)] at h1
    exact ⟨r, (Option.some.inj h1).symm, hr, h0, by rw [upd_ne hr]; exact hl⟩
  · rw [if_neg e] at h2
    rw [List.getElem?_set_ne (fun z => e z.symm)] at h1
    exact (h.2 k v ob h1 (by rw [tab_at hk]; exact h2)).put
def RetW (tab : List (Option (List Int))) (H : Hp) (Q : VK) : Prop := ∀ p vs H2, H p = none → Ex H H2 → H2 p = some (.lst vs) → TabF p H H2 vs tab → Q (.ref p) H2
/-! ### numbers -/
theorem xs_le2 {ls : List Int} {o : List Nat} (hl : Lok ls) (pw : o.Pairwise (Lx ls)) (hm : ∀ s ∈ o, s < ls.length ∧ 0 < lnA ls s) : (xs ls o : Int) ≤ kraft ls := by
  rw [← kraft_sum ls fun x hx => (hl x hx).1]
  have hnd : o.Nodup := pw.imp fun {a b} h e => by subst e; exact h.irrefl
  have h1 := nodup_sum (fun k => if lnA ls k = 0 then 0 else 2 ^ (20 - lnA ls k)) o (List.range ls.length) hnd fun x hx => List.mem_range.mpr (hm x hx).1
  have h2 : (o.map fun k => if lnA ls k = 0 then 0 else 2 ^ (20 - lnA ls k)) = o.map fun s => 2 ^ (20 - lnA ls s) := by
    refine List.map_congr_left fun k hk => ?_
    have := (hm k hk).2
    rw [if_neg (by omega)]
  rw [h2] at h1
  unfold xs
  exact_mod_cast h1
/-- the number ahead of a word -/
structure Num (ls : List Int) (o : List Nat) (num dep : Nat) : Prop where
  eq : num * 2 ^ (20 - dep) = xs ls o
  dp : dep ≤ 20
theorem Num.le {ls : List Int} {o : List Nat} {num dep : Nat} (h : Num ls o num dep) : num ≤ xs ls o := by
  rw [← h.eq]
  exact Nat.le_mul_of_pos_right _ (Nat.pow_pos (by decide))
theorem Num.up {ls : List Int} {o : List Nat} {num dep L : Nat} (h : Num ls o num dep) (hd : dep ≤ L) (hL : L ≤ 20) : Num ls o (num * 2 ^ (L - dep)) L := by
  refine ⟨?_, hL⟩
  rw [Nat.mul_assoc, ← Nat.pow_add, ← h.eq]
  congr 2
  omega
theorem Num.wd {ls : List Int} {o : List Nat} {num L s : Nat} (h : Num ls o num L) (hL : lnA ls s = L) : wd ls o s = bitsL num L := by
  unfold M01.wd
  rw [hL, ← h.eq, Nat.mul_div_cancel _ (Nat.pow_pos (by decide))]
theorem Num.add {ls : List Int} {o : List Nat} {num L s : Nat} (h : Num ls o num L) (hL : lnA ls s = L) : Num ls (o ++ [s]) (num + 1) L := by
  refine ⟨?_, h.dp⟩
  rw [xs_snoc, ← h.eq, hL, Nat.add_mul, Nat.one_mul]
theorem nat_bd {n : Nat} (h : n ≤ 1048576) : ((n : Int)).natAbs < 2 ^ 64 := by
  rw [Int.natAbs_natCast]
  have : (1048576 : Nat) < 2 ^ 64 := by decide
  omega
theorem ln_of {ls : List Int} (h : Lok ls) {k : Nat} (hk : k < ls.length) : ls.getD k 0 = (lnA ls k : Int) := by
  have hb := h _ (List.getElem_mem hk)
  unfold lnA
  rw [List.getD_eq_getElem?_getD, List.getElem?_eq_getElem hk]
  show ls[k] = ((ls[k]).toNat : Int)
  omega
section
variable {P : Program} {w : World} {K : PySem.W.Frag} {mg : Str → Option Value} {base : Heap}
def spWords (K : PySem.W.Frag) (Pt : Addr) : Sp := fun vs H Q _ => ∃ (l : Addr) (ls : List Int) (o : List Nat), vs = [.ref l] ∧ SqL K H l (ls.map V.int) ∧ Lok ls ∧ ls.length ≤ 100 ∧ kraft ls ≤ 1048576 ∧ H Pt = some (TabX Pt) ∧ IsOrd ls o ∧ RetW (tabOf ls o) H Q
theorem ok_words {f c Pt : Addr} {fd : FuncData} {k : Nat} (F : FunT K "words" "words" s_words f fd c) (TB : GxR.TabB base mg c Pt) (B : Bs mg) (C_field_bits : Cal P w K mg base "field_bits" 1 ["number", "width"] spBits) : FnOk P w K mg base CX0 (k + 7) f fd ["lengths"] (spWords K Pt) := by
  refine F.ok sc_words (fun vs H Q E h => ?_) (fun A outer s H vs Q E hr h => ?_)
  · obtain ⟨l, ls, o, rfl, _⟩ := h
    rfl
  · obtain ⟨l, ls, o, rfl, hs, hok, hn, hkr, htab, hord, q⟩ := h
    refine ⟨_, (pss_cons (ps_set (i := 1) sc_words.nd rfl (Or.inl rfl) (pe_op op_rep (pe_lst (pa_cons pe_non pa_nil)) (pe_callB call_len_seq (by rfl) B.len PySem.boot_len (pa_cons (pv 0) pa_nil))))
      (pss_cons (ps_set (i := 2) sc_words.nd rfl (Or.inl rfl) pe_int)
      (pss_cons (ps_set (i := 3) sc_words.nd rfl (Or.inl rfl) pe_int)
      (pss_cons (ps_set (i := 4) sc_words.nd rfl (Or.inl rfl) (pe_sortedG (k := 0) (pgx_gen (g := (gTup K 2 (gCons (gName 0) (gCons (gName 1) gNil)))) (N' := ["symbol", "length"]) (cm := [none, none]) (own := [0, 1]) (k0 := 0) (k := 0) (hr.mono (by omega)) TB rfl (capOk_by (N := ["lengths", "found", "number", "depth", "order", "length", "symbol"]) (sc := defScope s_words) (by decide +kernel)) (pi_enum (by rfl) B.enumerate (pa_cons (pv 0) pa_nil)) (fun _ _ _ _ _ _ _ _ _ => (pg_tup rfl (pgs_cons (pg_name (i := 0) (show List.Nodup (["symbol", "length"] : List Str) by decide +kernel) rfl (Or.inl rfl)) (pgs_cons (pg_name (i := 1) (show List.Nodup (["symbol", "length"] : List Str) by decide +kernel) rfl (Or.inl rfl)) pgs_nil)))) (fun _ _ _ _ _ _ _ _ _ => (pts_one (pt_cmpR op_gt (pv 1) pe_int (nomark _)))) (fun _ _ _ _ _ _ _ _ _ => (pe_tup (pa_cons (pv 1) (pa_cons (pv 0) pa_nil))))) (fun _ => mt_sortPO) (hr.mono (by omega)) (by rfl) B.sorted))
      (pss_cons (ps_for PassesOwn.never rfl (pi_list (pv 4)) (pg_tup rfl (pgs_cons (pg_name (i := 5) sc_words.nd rfl (Or.inl rfl)) (pgs_cons (pg_name (i := 6) sc_words.nd rfl (Or.inl rfl)) pgs_nil))) (pss_cons (ps_set (i := 2) sc_words.nd rfl (Or.inl rfl) (pe_op op_shl (pv 2) (pe_op op_sub (pv 5) (pv 3))))
      (pss_cons (ps_set (i := 3) sc_words.nd rfl (Or.inl rfl) (pv 5))
      (pss_cons (ps_asg (pe_callC C_field_bits (hr.mono (by omega)) (by rfl) (pa_cons (pv 2) (pa_cons (pv 5) pa_nil))) (pg_sub (pv 1) (pv 6) set_list))
      (pss_one (ps_aug (i := 2) sc_words.nd rfl (Or.inl rfl) pe_int ip_add))))))
      (pss_one (ps_ret (pv 1)))))))), ?_⟩
    have hxl : (ls.map V.int).length = ls.length := List.length_map _
    refine q_asgL (el_rep (el_lst (ea1 ev_c) (by decide)) (ev_len (ev_var rfl) hs) ⟨by omega, by omega⟩ (by decide)) fun p H1 hp e1 h1 => ?_
    rw [flat_rep, hxl, Int.toNat_natCast] at h1
    refine q_asg ev_c fun H2 e2 => ?_
    refine q_asg ev_c fun H3 e3 => ?_
    have e03 := (e1.trans e2).trans e3
    have hp3 := (e2.trans e3) p _ h1
    have hs3 := ex_l e03 hs
    -- the order
    refine ⟨_, rfl, l, _, rfl, hs3, e03 Pt _ htab, fun i m zs H' => m + i = ls.length ∧ Ex H3 H' ∧ PrG (fun s => ls.getD s 0) H' zs ((List.range i).filter fun s => decide (0 < ls.getD s 0)), ⟨ls.length, by omega, Ex.refl _, PrG.nil⟩, ?_⟩
    rintro i m zs H' ⟨hm, e4, hpr⟩
    by_cases hi : i < ls.length
    · right
      refine ⟨⟨_, _, ex_l e4 hs3, int_at hi⟩, fun zs H5 => (m - 1) + (i + 1) = ls.length ∧ Ex H3 H5 ∧ PrG (fun s => ls.getD s 0) H5 zs ((List.range (i + 1)).filter fun s => decide (0 < ls.getD s 0)), fun zs H5 q => ⟨m - 1, by omega, q⟩, ?_⟩
      rintro v H5 ⟨T, x, rfl, hT, rfl, hx1⟩
      have ex1 := (Option.some.inj ((int_at hi).symm.trans (hx1 _ (ex_l e4 hs3)))).symm
      subst ex1
      have e45 : Ex H' (upd H' T (.tup [.int (i : Int), .int (ls.getD i 0)])) := Ex.new hT
      refine ⟨T, _, rfl, .inl (.inl upd_same), rfl, _, _, rfl, _, _, rfl, rfl, rfl, ?_⟩
      refine (et_test (ev_op (ev_var (i := 1) (v := .int (ls.getD i 0)) rfl) (ev_c (v := .int 0)) rv_I0) : EvT _ [some (.int (i : Int)), some (.int (ls.getD i 0))] _ _) _ (Ex.refl _) _ fun H6 e6 => ?_
      have e46 := e45.trans e6
      cases hb : decide (0 < ls.getD i 0) with
      | false =>
        rw [if_neg Bool.false_ne_true]
        refine ⟨by omega, e4.trans e46, ?_⟩
        rw [List.range_succ, List.filter_append, List.filter_cons, if_neg (by rw [hb]; exact Bool.false_ne_true), List.filter_nil, List.append_nil]
        exact hpr.ext e46
      | true =>
        rw [if_pos rfl]
        refine (eu_tup (σ := [some (.int (i : Int)), some (.int (ls.getD i 0))]) (ea2 (ev_var (i := 1) (v := .int (ls.getD i 0)) rfl) (ev_var (i := 0) (v := .int (i : Int)) rfl)) (by show 2 ≤ 100000; decide)) _ (Ex.refl _) _ fun t H7 ht e7 h7 => ?_
        have e47 := e46.trans e7
        have hzl : zs.length < 100000 := by
          rw [hpr.1]
          have := List.length_filter_le (fun s => decide (0 < ls.getD s 0)) (List.range i)
          rw [List.length_range] at this
          omega
        refine ⟨sz_lt hzl, trivial, by omega, e4.trans e47, ?_⟩
        rw [List.range_succ, List.filter_append, List.filter_cons, if_pos hb, List.filter_nil]
        exact (hpr.ext e47).add h7
    · left
      have hin : i = ls.length := by omega
      subst hin
      refine ⟨⟨_, ex_l e4 hs3, by rw [hxl]; exact Nat.le_refl _⟩, ?_⟩
      refine tSort_use hpr (List.Nodup.sublist (List.filter_sublist) List.nodup_range) fun po zs o' hpo hpr2 hperm hpw => ?_
      have hpop : po ≠ p := fun z => by
        have := e4 p _ hp3
        rw [← z, hpo] at this
        cases this
      -- it is the order
      have hmem : ∀ s, s ∈ o' ↔ s < ls.length ∧ 0 < lnA ls s := fun s => by
        rw [hperm.mem_iff, List.mem_filter, List.mem_range]
        constructor
        · rintro ⟨a, b⟩
          refine ⟨a, ?_⟩
          have b' : 0 < ls.getD s 0 := of_decide_eq_true b
          rw [ln_of hok a] at b'
          omega
        · rintro ⟨a, b⟩
          refine ⟨a, decide_eq_true ?_⟩
          rw [ln_of hok a]
          omega
      have hord' : IsOrd ls o' := ⟨List.Pairwise.imp_of_mem (fun {a b} ha hb h => by
        have ha' := (hmem a).mp ha
        have hb' := (hmem b).mp hb
        simp only [ln_of hok ha'.1, ln_of hok hb'.1] at h
        unfold Lx
        omega) hpw, hmem⟩
      have eo := hord'.uniq hord
      subst eo
      have hpoL : (upd H' po (.lst zs)) po = some (.lst zs) := upd_same
      have e0S : Ex H (upd H' po (.lst zs)) := (e03.trans e4).trans (Ex.new hpo)
      have hpS : (upd H' po (.lst zs)) p = some (.lst (List.replicate ls.length .non)) := by
        rw [upd_ne (fun z => hpop z.symm)]
        exact e4 p _ hp3
      generalize hHS : upd H' po (.lst zs) = HS at *
      have hzo : zs.length = o'.length := hpr2.1
      show tSeq _ _ _ _ _
      refine q_forL (ev_var rfl) (sq_of hpoL)
        (fun i σ H9 => ∃ (num dep : Nat) (vs : List V) (a b : Option V), σ = [some (.ref l), some (.ref p), some (.int (num : Int)), some (.int (dep : Int)), some (.ref po), a, b] ∧ Ex H H9 ∧ H9 po = some (.lst zs) ∧ PrG (fun s => ls.getD s 0) H9 zs o' ∧ H9 p = some (.lst vs) ∧ TabF p H H9 vs (tabOf ls (o'.take i)) ∧ Num ls (o'.take i) num dep ∧ ∀ s ∈ o'.drop i, dep ≤ lnA ls s)
        (fun H9 e9 => ⟨0, 0, _, none, none, rfl, e0S.trans e9, e9 po _ hpoL, hpr2.ext e9, e9 p _ hpS, by rw [List.take_zero, tab_nil]; exact TabF.none _, ⟨by simp [xs], by omega⟩, fun s _ => Nat.zero_le _⟩)
        (fun i σ H9 _ hP => by
          obtain ⟨num, dep, vs, a, b, _, _, hz, _⟩ := hP
          exact sq_of hz) ?_ ?_
      · rintro i x σ H9 hi9 ⟨num, dep, vs, a, b, rfl, eh, hz9, hpr9, hp9, htf, hnum, hdr⟩
        have hil : i < o'.length := by rw [← hzo]; exact (List.getElem?_eq_some_iff.mp hi9).1
        obtain ⟨t, ht1, ht2⟩ := hpr9.2 i _ (List.getElem?_eq_getElem hil)
        rw [hi9] at ht1
        have ex9 := Option.some.inj ht1
        subst ex9
        generalize hso : o'[i] = so at *
        have hsm : so ∈ o' := by rw [← hso]; exact List.getElem_mem hil
        obtain ⟨hsl, hspos⟩ := (hmem so).mp hsm
        simp only [ln_of hok hsl] at ht2
        have hL20 := ln_le hok so
        have htk : o'.take (i + 1) = o'.take i ++ [so] := by rw [← hso]; exact (List.take_append_getElem hil).symm
        have hdep : dep ≤ lnA ls so := hdr so (by rw [List.drop_eq_getElem_cons hil, hso]; exact List.mem_cons_self)
        generalize hLe : lnA ls so = L at *
        refine ⟨t, _, rfl, .inl (.inl ht2), rfl, _, _, rfl, _, _, rfl, rfl, ?_⟩
        have hxk : xs ls (o'.take i) ≤ 1048576 := by
          have h1 := xs_le hok hord'
          have h2 : xs ls o' = xs ls (o'.take i) + xs ls (o'.drop i) := by rw [← xs_app, List.take_append_drop]
          omega
        have hn1 := hnum.up hdep hL20
        have hn1b := Nat.le_trans hn1.le hxk
        refine q_asg (v := .int ((num * 2 ^ (L - dep) : Nat) : Int)) (ev_is (ev_op (ev_var rfl) (ev_sub (i := (L : Int)) (j := (dep : Int)) (ev_var rfl) (ev_var rfl)) (rv_shl ⟨by omega, by omega, nat_bd (Nat.le_trans hnum.le hxk)⟩)) ?_) fun H10 e10 => ?_
        · congr 1
          have : ((L : Int) - (dep : Int)).toNat = L - dep := by omega
          rw [this, Int.natCast_mul, Int.natCast_pow]
          rfl
        refine q_asg (v := .int (L : Int)) (ev_var rfl) fun H11 e11 => ?_
        have e911 := e10.trans e11
        refine q_setLL (j := so) (e911 p _ hp9) (el_call (ea2 (ev_var rfl) (ev_var rfl)) fun H1 e1 Q q E => ⟨num * 2 ^ (L - dep), L, rfl, by omega, fun p H2 hp e2 h2 => q p H2 hp e2 h2⟩) (ev_var rfl) (ev_var rfl) (by have := htf.1; rw [tab_len] at this; omega) fun r H12 hr e12 h12 => ?_
        have e912 := e911.trans e12
        have hrp : r ≠ p := fun z => by
          have := e911 p _ hp9
          rw [← z, hr] at this
          cases this
        have hr0 : H r = none := fresh_back (eh.trans e911) hr
        refine s_aug (a := ((num * 2 ^ (L - dep) : Nat) : Int)) (b := 1) rfl ev_c fun H13 e13 => ?_
        have hso2 : so ∉ o'.take i := fun z => by
          have h1 := hord'.nodup
          rw [← List.take_append_drop i o', List.nodup_append] at h1
          exact h1.2.2 so z so (by rw [List.drop_eq_getElem_cons hil, hso]; exact List.mem_cons_self) rfl
        have hput : Ex H (upd H12 p (.lst (vs.set so (.ref r)))) := Ex.mut (eh.trans e912) hp
        refine ⟨num * 2 ^ (L - dep) + 1, L, vs.set so (.ref r), _, _, rfl, hput.trans e13, e13 po _ (by rw [upd_ne hpop]; exact e912 po _ hz9), ((hpr9.ext e912).put (e912 p _ hp9)).ext e13, e13 p _ upd_same, ?_, ?_, fun s hs2 => ?_⟩
        · rw [htk]
          refine ((htf.ext e912).set hso2 hrp hr0 ?_).ext e13
          rw [h12, hn1.wd hLe]
        · rw [htk]
          exact hn1.add hLe
        · have h1 := hord'.pw
          rw [← List.take_append_drop i o', List.drop_eq_getElem_cons hil, hso] at h1
          have h2 := (List.pairwise_cons.mp (List.pairwise_append.mp h1).2.1).1 s hs2
          unfold Lx at h2
          omega
      · rintro σ H9 ⟨num, dep, vs, a, b, rfl, eh, hz9, hpr9, hp9, htf, hnum, hdr⟩
        rw [hzo, List.take_length] at htf
        exact s_ret (ev_var rfl) fun H10 e10 => q p vs H10 hp (eh.trans e10) (e10 p _ hp9) (htf.ext e10)
end
end K01
set_option Elab.async false
set_option linter.all false
set_option maxRecDepth 100000
set_option maxHeartbeats 4000000
namespace K01
open PySem PySem.Spec PyProof.Rows L2 StX GX KC Evl M01
section
variable {P : Program} {w : World} {K : PySem.W.Frag} {mg : Str → Option Value} {base : Heap}
theorem given_rep (n : Nat) : given n (fun _ => true) (fun _ => V.non) = List.replicate n .non := by
  unfold given
  rw [List.filter_eq_self.mpr fun _ _ => rfl]
  refine List.ext_getElem? fun k => ?_
  rw [List.getElem?_map]
  by_cases h : k < n
  · rw [List.getElem?_range h, List.getElem?_replicate, if_pos h]
    rfl
  · rw [List.getElem?_eq_none (by rw [List.length_range]; omega), List.getElem?_eq_none (by rw [List.length_replicate]; omega)]
    rfl
def spLawWords (K : PySem.W.Frag) : Sp := fun vs H Q _ => ∃ (l : Addr) (ls : List Int), vs = [.ref l] ∧ SqL K H l (ls.map V.int) ∧ Lok ls ∧ ls.length ≤ 100 ∧ kraft ls ≤ 1048576 ∧ ∀ o, IsOrd ls o → RetW (tabOf ls o) H Q
theorem ok_law_words {f : Addr} {fd : FuncData} {k : Nat} (F : Fun K "_law_words" "_law_words" s_law_words f fd) (B : Bs mg) : FnOk P w K mg base CX0 (k + 1) f fd ["lengths"] (spLawWords K) := by
  refine F.ok sc_law_words (fun vs H Q E h => ?_) (fun cdv A outer s H vs Q E hr h => ?_)
  · obtain ⟨l, ls, rfl, _⟩ := h
    rfl
  · obtain ⟨l, ls, rfl, hs, hok, hn, hkr, q⟩ := h
    refine ⟨_, (pss_cons (ps_setLc (i := 1) rfl sc_law_words.nd rfl rfl (sw_true rfl rfl rfl (by decide +kernel)) (pi_list (pv 0)) (blkOk_by (own := [("length", 2)]) (N := ["lengths", "table", "length", "value", "width", "k", "j"]) (sc := defScope s_law_words) (by decide +kernel)) (fun _ _ _ _ _ => (pg_name (i := 2) sc_law_words.nd rfl (Or.inl rfl))) (fun _ _ _ _ _ => pts_nil) (fun _ _ _ _ _ => pe_non))
      (pss_cons (ps_set (i := 3) sc_law_words.nd rfl (Or.inr rfl) pe_int)
      (pss_cons (ps_set (i := 4) sc_law_words.nd rfl (Or.inl rfl) pe_int)
      (pss_cons (ps_for PassesOwn.never rfl (pi_range2 (by rfl) B.range (pa_cons pe_int (pa_cons pe_int pa_nil))) (pg_name (i := 2) sc_law_words.nd rfl (Or.inr rfl)) (pss_one (ps_for PassesOwn.never rfl (pi_range1 (by rfl) B.range (pa_cons (pe_callB call_len_seq (by rfl) B.len PySem.boot_len (pa_cons (pv 0) pa_nil)) pa_nil)) (pg_name (i := 5) sc_law_words.nd rfl (Or.inl rfl)) (pss_one (ps_if (pt_cmpR op_eq (pe_ix ix_list (pv 0) (pv 5) (fun _ _ => rfl)) (pv 2) (nomark _)) (pss_cons (ps_set (i := 3) sc_law_words.nd rfl (Or.inr rfl) (pe_op op_mul (pv 3) (pe_op op_shl pe_int (pe_op op_sub (pv 2) (pv 4)))))
      (pss_cons (ps_set (i := 4) sc_law_words.nd rfl (Or.inl rfl) (pv 2))
      (pss_cons (ps_asg (pe_lc rfl sc_law_words.nd (pi_range1 (by rfl) B.range (pa_cons (pv 2) pa_nil)) (blkOk_by (own := [("j", 6)]) (N := ["lengths", "table", "length", "value", "width", "k", "j"]) (sc := defScope s_law_words) (by decide +kernel)) (fun _ _ _ _ _ => (pg_name (i := 6) sc_law_words.nd rfl (Or.inl rfl))) (fun _ _ _ _ _ => pts_nil) (fun _ _ _ _ _ => (pe_op op_mod (pe_op op_fdiv (pv 3) (pe_op op_shl pe_int (pe_op op_sub (pe_op op_sub (pv 2) pe_int) (pv 6)))) pe_int))) (pg_sub (pv 1) (pv 5) set_list))
      (pss_one (ps_set (i := 3) sc_law_words.nd rfl (Or.inr rfl) (pe_op op_add (pv 3) pe_int)))))) pss_nil)))))
      (pss_one (ps_ret (pv 1))))))), ?_⟩
    have hxl : (ls.map V.int).length = ls.length := List.length_map _
    refine q_asgL (el_lcL (fun _ => true) (fun _ => V.non) (ev_var rfl) hs (by omega) (fun x => rfl) (fun i x H1 e hi => et_yes) (fun i x H1 e hi _ => ev_c)) fun p H1 hp e1 h1 => ?_
    rw [given_rep, hxl] at h1
    refine q_asg ev_c fun H2 e2 => ?_
    refine q_asg ev_c fun H3 e3 => ?_
    have e03 := (e1.trans e2).trans e3
    have hp3 := (e2.trans e3) p _ h1
    refine q_forR2 (lo := 1) (n := 21) (ea2 ev_c ev_c) ⟨by decide, by decide, by decide, by decide⟩
      (fun i σ H' => ∃ (num dep : Nat) (vs : List V) (o : List Nat) (a b c : Option V), σ = [some (.ref l), some (.ref p), a, some (.int (num : Int)), some (.int (dep : Int)), b, c] ∧ Ex H H' ∧ H' p = some (.lst vs) ∧ TabF p H H' vs (tabOf ls o) ∧ Proc ls (i + 1) 0 o ∧ Num ls o num dep ∧ dep ≤ i + 1)
      (fun H4 e4 => ⟨0, 0, _, [], none, none, none, rfl, e03.trans e4, e4 p _ hp3, by rw [tab_nil]; exact TabF.none _, Proc.zero ls, ⟨by simp [xs], by omega⟩, by omega⟩) ?_ ?_
    · rintro i σ H' hi ⟨num, dep, vs, o, a, b, c, rfl, eh, hl, htf, hpr, hnum, hdp⟩
      refine s_forR1 (n := ((ls.map V.int).length : Int)) (ea1 (ev_len (ev_var rfl) (ex_l eh hs))) ⟨by omega, by omega⟩
        (fun k σ H4 => ∃ (num dep : Nat) (vs : List V) (o : List Nat) (b c : Option V), σ = [some (.ref l), some (.ref p), some (.int (1 + (i : Int))), some (.int (num : Int)), some (.int (dep : Int)), b, c] ∧ Ex H H4 ∧ H4 p = some (.lst vs) ∧ TabF p H H4 vs (tabOf ls o) ∧ Proc ls (i + 1) k o ∧ Num ls o num dep ∧ dep ≤ i + 1)
        (fun H4 e4 => ⟨num, dep, vs, o, b, c, rfl, eh.trans e4, e4 p _ hl, htf.ext e4, hpr, hnum, hdp⟩) ?_ ?_
      · rintro k σ H4 hk ⟨num, dep, vs, o, b, c, rfl, eh4, hl4, htf4, hpr4, hnum4, hdp4⟩
        have hs4 := ex_l eh4 hs
        have hkl : k < ls.length := by omega
        have hgk := ln_of hok hkl
        refine s_when (et_test (ev_eq (i := ls.getD k 0) (j := 1 + (i : Int)) (ev_op (ev_var rfl) (ev_var rfl) (rv_ixL hs4 (atI_at rfl hkl))) (ev_var rfl))) (fun hb H5 e5 => ?_) (fun hb H5 e5 => ?_)
        · have hb' : ls.getD k 0 = 1 + (i : Int) := of_decide_eq_true hb
          have hLk : lnA ls k = i + 1 := by rw [hgk] at hb'; omega
          obtain ⟨hpr5, hko⟩ := hpr4.add hLk (by omega) hkl
          have hxk : xs ls o ≤ 1048576 := by
            have := xs_le2 hok hpr4.pw fun s hs => by have := (hpr4.mem s).mp hs; exact ⟨this.1, this.2.1⟩
            omega
          have hL20 : i + 1 ≤ 20 := by omega
          have hn1 := hnum4.up hdp4 hL20
          have hn1b := Nat.le_trans hn1.le hxk
          have hnb := nat_bd (Nat.le_trans hnum4.le hxk)
          refine q_asg (v := .int ((num * 2 ^ (i + 1 - dep) : Nat) : Int)) (ev_is (ev_op (ev_var rfl) (ev_op ev_c (ev_sub (i := 1 + (i : Int)) (j := (dep : Int)) (ev_var rfl) (ev_var rfl)) (rv_shl ⟨by omega, by omega, by decide⟩)) (rv_mul (by omega))) ?_) fun H6 e6 => ?_
          · congr 1
            have : (1 + (i : Int) - (dep : Int)).toNat = i + 1 - dep := by omega
            rw [this, Int.one_mul, Int.natCast_mul, Int.natCast_pow]
            rfl
          refine q_asg (v := .int (1 + (i : Int))) (ev_var rfl) fun H7 e7 => ?_
          generalize hn2 : num * 2 ^ (i + 1 - dep) = n2 at *
          have e57 := (e5.trans e6).trans e7
          have hbits : (wd ls o k).map V.int = given (1 + (i : Int)).toNat (fun _ => true) (fun j => V.int ((n2 / 2 ^ (i + 1 - 1 - j) % 2 : Nat) : Int)) := by
            rw [hn1.wd hLk]
            unfold given bitsL
            rw [List.filter_eq_self.mpr fun _ _ => rfl, List.map_map]
            have : (1 + (i : Int)).toNat = i + 1 := by omega
            rw [this]
            rfl
          refine q_setLL (j := k) (e57 p _ hl4) (ys := (wd ls o k).map V.int) ?_ (ev_var rfl) (ev_var rfl) (by have := htf4.1; rw [tab_len] at this; omega) fun r H8 hr e8 h8 => ?_
          · rw [hbits]
            refine el_lcR1 (fun _ => true) _ (ea1 (ev_var rfl)) ⟨by omega, by omega⟩ (fun x => rfl) (fun j H1 e hj => et_yes) (fun j H1 e hj _ => ?_)
            have hpp : ∀ y : Fin 21, (0 : Int) < 1 * 2 ^ y.val ∧ (1 : Int) * 2 ^ y.val < 1073741824 := by decide
            have ej : (1 + (i : Int) - 1 - (j : Int)).toNat = i + 1 - 1 - j := by omega
            have hpj := hpp ⟨i + 1 - 1 - j, by omega⟩
            refine ev_is (ev_op (ev_op (ev_var (v := .int (n2 : Int)) rfl) (ev_op ev_c (ev_sub (ev_sub (i := 1 + (i : Int)) (ev_var rfl) ev_c) (ev_var (v := .int (j : Int)) rfl)) (rv_shl ⟨by omega, by omega, by decide⟩)) (rv_div (by rw [ej]; exact hpj.1) (by rw [ej]; exact hpj.2))) ev_c (rv_mod (by decide))) ?_
            rw [ej, Int.one_mul]
            congr 1
          · refine s_asg (v := .int ((n2 + 1 : Nat) : Int)) (ev_is (ev_add (i := (n2 : Int)) (ev_var rfl) ev_c) rfl) fun H9 e9 => ?_
            have e58 := e57.trans e8
            have hrp : r ≠ p := fun z => by
              have := e57 p _ hl4
              rw [← z, hr] at this
              cases this
            have hr0 : H r = none := fresh_back (eh4.trans e57) hr
            have hput : Ex H (upd H8 p (.lst (vs.set k (.ref r)))) := Ex.mut (eh4.trans e58) hp
            refine ⟨n2 + 1, i + 1, vs.set k (.ref r), o ++ [k], _, _, by rw [show ((i + 1 : Nat) : Int) = 1 + (i : Int) by omega]; rfl, hput.trans e9, e9 p _ upd_same, ((htf4.ext e58).set hko hrp hr0 h8).ext e9, hpr5, hn1.add hLk, Nat.le_refl _⟩
        · have hb' : ¬ ls.getD k 0 = 1 + (i : Int) := of_decide_eq_false hb
          have hLk : lnA ls k ≠ i + 1 := by rw [hgk] at hb'; omega
          exact ⟨num, dep, vs, o, _, _, rfl, eh4.trans e5, e5 p _ hl4, htf4.ext e5, hpr4.skip hLk, hnum4, hdp4⟩
      · rintro σ H4 ⟨num, dep, vs, o, b, c, rfl, eh4, hl4, htf4, hpr4, hnum4, hdp4⟩
        have hz : ((ls.map V.int).length : Int).toNat = ls.length := by omega
        rw [hz] at hpr4
        exact ⟨num, dep, vs, o, _, _, _, rfl, eh4, hl4, htf4, hpr4.next, hnum4, by omega⟩
    · rintro σ H' ⟨num, dep, vs, o, a, b, c, rfl, eh, hl, htf, hpr, hnum, hdp⟩
      have hord := Proc.whole hok (show Proc ls 21 0 o from hpr)
      exact s_ret (ev_var rfl) fun H10 e10 => q o hord p vs H10 hp (eh.trans e10) (e10 p _ hl) (htf.ext e10)
end
end K01
set_option Elab.async false
set_option linter.all false
set_option maxRecDepth 100000
set_option maxHeartbeats 4000000
namespace K01
open PySem PySem.Spec PyProof.Rows L2 StX GX KC Evl M01
theorem cutV_to (xs : List V) (n : Nat) : cutV xs none (some (n : Int)) = xs.take n := by
  unfold cutV
  rw [HT.sIx_none, HT.sIx_nat, List.drop_zero, Nat.sub_zero]
  by_cases h : n ≤ xs.length
  · rw [Nat.min_eq_left h]
  · rw [Nat.min_eq_right (by omega), List.take_of_length_le (Nat.le_refl _), List.take_of_length_le (by omega)]
def optD : Option (List Int) → PyData
  | none => .none
  | some bs => .list (bs.map PyData.int)
theorem optD_lay (x : Option (List Int)) : (optD x).canLay0 = true := by
  cases x with
  | none => simp [optD, PyData.canLay0]
  | some bs =>
    simp only [optD, PyData.canLay0]
    exact canLayAll0_map (fun a => by simp [PyData.canLay0]) bs
theorem optD_depth (x : Option (List Int)) : (optD x).depth ≤ 10 := by
  cases x with
  | none => simp [optD, PyData.depth]
  | some bs =>
    have := depthAll_map (f := PyData.int) (n := 1) (fun a => by simp [PyData.depth]) bs
    simp only [optD, PyData.depth]
    omega
theorem optD_eqv (x : Option (List Int)) : PyData.eqv (optD x) (optD x) = true := by
  cases x with
  | none => simp [optD, PyData.eqv]
  | some bs => exact eqv_ints bs
theorem dp_tab {K : PySem.W.Frag} {p : Addr} {H0 H : Hp} : ∀ {vs : List V} {tab : List (Option (List Int))}, TabF p H0 H vs tab → DpAll K H vs (tab.map optD)
  | [], [], _ => .nil
  | [], _ :: _, h => absurd h.1 (by simp)
  | _ :: _, [], h => absurd h.1 (by simp)
  | v :: vs, o :: tab, h => by
    have h1 := h.2 0 v o rfl rfl
    have h2 : TabF p H0 H vs tab := ⟨by have := h.1; simpa using this, fun k v o a b => h.2 (k + 1) v o a b⟩
    refine .cons ?_ (dp_tab h2)
    cases o with
    | none =>
      have e : v = .non := h1
      subst e
      exact .non
    | some bs =>
      obtain ⟨r, rfl, _, _, hr⟩ := h1
      exact dp_listI (sq_of hr)
section
variable {P : Program} {w : World} {K : PySem.W.Frag} {mg : Str → Option Value} {base : Heap} {σ : L2.St} {H : Hp} {ta tb tc te : TE} {t u : TT}
theorem ev_call1L {sp : Sp} {E : XK} {xs : List V} {z : V} (h : EvL ta σ H xs) (hs : ∀ p H1, Ex H H1 → H1 p = some (.lst xs) → SpV sp [.ref p] H1 z) : Ev (tCall sp [] E (tCons ta tNil)) σ H z := fun H1 e Q q =>
  h H1 e _ fun p H2 _ e2 h2 => hs p H2 (e.trans e2) h2 H2 (Ex.refl _) Q (fun H3 e3 => q H3 (e2.trans e3)) E
theorem et_andF {b : Bool} (h : EvT t σ H false) : EvT (tAnd t u) σ H false := et_is (et_and (b := b) h fun z => by cases z) rfl
theorem et_andT {b : Bool} (h : EvT t σ H true) (h2 : EvT u σ H b) : EvT (tAnd t u) σ H b := et_is (et_and h fun _ => h2) (by cases b <;> rfl)
theorem et_orF {a b : Bool} (h : EvT t σ H false) (h2 : EvT u σ H b) : EvT (tOr t u) σ H b := et_is (et_or h fun _ => h2) (by cases b <;> rfl)
theorem ev_isBool {b : Bool} (h1 : Ev ta σ H (.bl b)) : Ev (tCB (rIsi K) (tCons ta (tCons (tC (.ty "bool")) tNil))) σ H (.bl true) :=
  ev_cb (ea2 h1 ev_c) (rc_val fun H1 _ Q q => ⟨.bl b, .ty "bool", .type "bool", .type "bool", true, rfl, .ty _, .base (.bl b), rfl, q⟩)
theorem ev_isList {l : Addr} {xs : List V} (h1 : Ev ta σ H (.ref l)) (hl : H l = some (.lst xs)) : Ev (tCB (rIsi K) (tCons ta (tCons (tC (.ty "list")) tNil))) σ H (.bl true) :=
  ev_cb (ea2 h1 ev_c) (rc_val fun H1 e1 Q q => ⟨.ref l, .ty "list", .type "list", .type "list", true, rfl, .ty _, .base (.lst (e1 l _ hl)), rfl, q⟩)
theorem ev_notN {x : V} (h1 : Ev ta σ H x) : Ev (tOp (fun x y H Q => y = .non ∧ Q (.bl (!decide (x = .non))) H) ta (tC .non)) σ H (.bl (!decide (x = .non))) :=
  ev_op h1 ev_c (rv_val fun H1 _ Q q => ⟨rfl, q⟩)
def spLaw (K : PySem.W.Frag) (P0 P1 P2 : Addr) : Sp := fun vs H Q _ => ∃ (a : Addr) (ns : List Int), vs = [.ref a] ∧ SqL K H a (ns.map V.int) ∧ ns.length ≤ 63 ∧ H P0 = some (TabX P0) ∧ H P1 = some (TabX P1) ∧ H P2 = some (TabX P2) ∧ ∀ H2, Ex H H2 → Q (.bl true) H2
theorem sp_is_code {H : Hp} {l P0 P1 : Addr} {ls : List Int} (hs : SqL K H l (ls.map V.int)) (h : Lok ls) (hn : ls.length ≤ 100) (t0 : H P0 = some (TabX P0)) (t1 : H P1 = some (TabX P1)) : SpV (spIsCode K P0 P1) ([.ref l] ++ []) H (.bl (codeB ls)) := fun H1 e1 Q q E => ⟨l, ls, rfl, ex_l e1 hs, h, hn, e1 P0 _ t0, e1 P1 _ t1, q⟩
theorem sp_lroom {H : Hp} {l : Addr} {ls : List Int} (hs : SqL K H l (ls.map V.int)) (h : Lok ls) (hn : ls.length ≤ 100) : SpV (spLawRoom K) ([.ref l] ++ []) H (.int (roomL ls)) := fun H1 e1 Q q E => ⟨l, ls, rfl, ex_l e1 hs, h, hn, q⟩
theorem any_max {ls : List Int} {m : Int} (h : Lok ls) (hm : m ∈ ls) (hall : ∀ y ∈ ls, y ≤ m) : (ls.any fun x => !decide (x = 0)) = decide (m > 0) := by
  by_cases z : m > 0
  · rw [decide_eq_true z]
    exact List.any_eq_true.mpr ⟨m, hm, by simp; omega⟩
  · rw [decide_eq_false z]
    rw [List.any_eq_false]
    intro x hx
    have h1 := hall x hx
    have h2 := (h x hx).1
    simp
    omega
theorem ok_law {f P0 P1 P2 : Addr} {fd : FuncData} {k : Nat} (F : Fun K "law" "law" s_law f fd) (B : Bs mg)
    (C_law_cell : Cal P w K mg base "_law_cell" 1 ["script", "k"] (spCell K)) (C_law_lengths : Cal P w K mg base "_law_lengths" 2 ["script", "first", "many"] (spLengths K))
    (C_room : Cal P w K mg base "room" 7 ["lengths"] (spRoom K P0)) (C_is_code : Cal P w K mg base "is_code" 8 ["lengths"] (spIsCode K P0 P1)) (C_law_room : Cal P w K mg base "_law_room" 1 ["lengths"] (spLawRoom K))
    (C_law_fitting : Cal P w K mg base "_law_fitting" 1 ["lengths"] (spFit K)) (C_law_words : Cal P w K mg base "_law_words" 1 ["lengths"] (spLawWords K)) (C_words : Cal P w K mg base "words" 7 ["lengths"] (spWords K P2)) : FnOk P w K mg base CX0 (k + 9) f fd ["script"] (spLaw K P0 P1 P2) := by
  refine F.ok sc_law (fun vs H Q E h => ?_) (fun cdv A outer s H vs Q E hr h => ?_)
  · obtain ⟨a, ns, rfl, _⟩ := h
    rfl
  · obtain ⟨a, ns, rfl, hs, hn, t0, t1, t2, q⟩ := h
    have hu64 : (A.deeper (envOfC "law" (defScope s_law) s.heap.objs.size f cdv)).units + 64 < cLine := by
      have := hr.un
      omega
    refine ⟨_, (pss_cons (ps_set (i := 1) sc_law.nd rfl (Or.inl rfl) (pe_op op_add pe_int (pe_op op_mod (pe_callC C_law_cell (hr.mono (by omega)) (by rfl) (pa_cons (pv 0) (pa_cons pe_int pa_nil))) pe_int)))
      (pss_cons (ps_set (i := 2) sc_law.nd rfl (Or.inl rfl) (pe_callC C_law_lengths (hr.mono (by omega)) (by rfl) (pa_cons (pv 0) (pa_cons pe_int (pa_cons (pv 1) pa_nil)))))
      (pss_cons (ps_set (i := 3) sc_law.nd rfl (Or.inl rfl) (pe_callC C_is_code (hr.mono (by omega)) (by rfl) (pa_cons (pe_callTy call_list_of (by rfl) B.list (by decide +kernel) (pa_cons (pv 2) pa_nil)) pa_nil)))
      (pss_cons (ps_if (PW.pt (pw_or (pt_cmpR op_ne (pe_callC C_room (hr.mono (by omega)) (by rfl) (pa_cons (pe_callTy call_list_of (by rfl) B.list (by decide +kernel) (pa_cons (pv 2) pa_nil)) pa_nil)) (pe_callC C_law_room (hr.mono (by omega)) (by rfl) (pa_cons (pv 2) pa_nil)) (nomark _)) (pw_or1 (pt_not (pt_val (pe_callB call_isi (by rfl) B.isinstance (by decide +kernel) (pa_cons (pv 3) (pa_cons (pe_bltn (v := .ty "bool") (by rfl) B.bool boot_bool rfl) pa_nil)))))))) (pss_one (ps_ret pe_bl)) pss_nil)
      (pss_cons (ps_if (pt_cmpR op_ne (pv 3) (pe_and (pe_cmpR op_ge (pe_callC C_law_room (hr.mono (by omega)) (by rfl) (pa_cons (pv 2) pa_nil)) pe_int (nomark _)) (pe_one (pe_cmpR op_gt (pe_callB (cr_max rfl) (by rfl) B.max (by decide +kernel) (pa_cons (pv 2) pa_nil)) pe_int (nomark _)))) (nomark _)) (pss_one (ps_ret pe_bl)) pss_nil)
      (pss_cons (ps_set (i := 2) sc_law.nd rfl (Or.inl rfl) (pe_callC C_law_fitting (hr.mono (by omega)) (by rfl) (pa_cons (pv 2) pa_nil)))
      (pss_cons (ps_set (i := 4) sc_law.nd rfl (Or.inl rfl) (pe_callTy call_list_of (by rfl) B.list (by decide +kernel) (pa_cons (pv 2) pa_nil)))
      (pss_cons (ps_if (PW.pt (pw_or (pt_not (pt_val (pe_callC C_is_code (hr.mono (by omega)) (by rfl) (pa_cons (pv 4) pa_nil)))) (pw_or1 (pt_cmpR op_ne (pe_callC C_room (hr.mono (by omega)) (by rfl) (pa_cons (pv 4) pa_nil)) (pe_callC C_law_room (hr.mono (by omega)) (by rfl) (pa_cons (pv 2) pa_nil)) (nomark _))))) (pss_one (ps_ret pe_bl)) pss_nil)
      (pss_cons (ps_set (i := 5) sc_law.nd rfl (Or.inl rfl) (pe_callC C_law_words (hr.mono (by omega)) (by rfl) (pa_cons (pv 2) pa_nil)))
      (pss_cons (ps_set (i := 6) sc_law.nd rfl (Or.inl rfl) (pe_callC C_words (hr.mono (by omega)) (by rfl) (pa_cons (pv 4) pa_nil)))
      (pss_cons (ps_if (PW.pt (pw_or (pt_cmpR (op_neD hu64) (pv 4) (pv 2) (nomark _)) (pw_or (pt_not (pt_val (pe_callB call_isi (by rfl) B.isinstance (by decide +kernel) (pa_cons (pv 6) (pa_cons (pe_bltn (v := .ty "list") (by rfl) B.list boot_list rfl) pa_nil))))) (pw_or1 (pt_cmpR (op_neD hu64) (pv 6) (pv 5) (nomark _)))))) (pss_one (ps_ret pe_bl)) pss_nil)
      (pss_cons (ps_for PassesOwn.never rfl (pi_range1 (by rfl) B.range (pa_cons (pv 1) pa_nil)) (pg_name (i := 7) sc_law.nd rfl (Or.inl rfl)) (pss_cons (ps_for PassesOwn.never rfl (pi_range1 (by rfl) B.range (pa_cons (pv 1) pa_nil)) (pg_name (i := 8) sc_law.nd rfl (Or.inl rfl)) (pss_one (ps_if (PW.pt (pw_and (pt_cmpR op_ne (pv 7) (pv 8) (nomark _)) (pw_and (pt_cmpR op_notN (pe_ix ix_list (pv 5) (pv 7) (fun _ _ => rfl)) pe_non (nomark _)) (pw_and (pt_cmpR op_notN (pe_ix ix_list (pv 5) (pv 8) (fun _ _ => rfl)) pe_non (nomark _)) (pw_and1 (pt_cmpR (op_eqD hu64) (pe_slice sl_list (pe_ix ix_list (pv 5) (pv 8) (fun _ _ => rfl)) po_none (po_some (pe_callB call_len_seq (by rfl) B.len PySem.boot_len (pa_cons (pe_ix ix_list (pv 5) (pv 7) (fun _ _ => rfl)) pa_nil)))) (pe_ix ix_list (pv 5) (pv 7) (fun _ _ => rfl)) (nomark _))))))) (pss_one (ps_ret pe_bl)) pss_nil)))
      (pss_one (ps_if (pt_cmpR op_notN (pe_ix ix_list (pv 6) (pv 7) (fun _ _ => rfl)) pe_non (nomark _)) (pss_one (ps_expr (pe_bm PySem.F.plainAttrs_list PySem.F.slot_list_append PySem.F.type_list_append mt_append (pe_ix ix_list (pv 6) (pv 7) (fun _ _ => rfl)) (pa_cons pe_int pa_nil)))) pss_nil))))
      (pss_one (ps_ret (pe_cmpR (op_eqD hu64) (pe_callC C_words (hr.mono (by omega)) (by rfl) (pa_cons (pv 4) pa_nil)) (pv 5) (nomark _)))))))))))))))), ?_⟩
    obtain ⟨n, hn1, hn24, en⟩ : ∃ n : Nat, 1 ≤ n ∧ n ≤ 24 ∧ 1 + cellOf ns 0 % 24 = (n : Int) := ⟨(1 + cellOf ns 0 % 24).toNat, by omega, by omega, by omega⟩
    refine q_asg (v := .int (n : Int)) (ev_is (ev_add ev_c (ev_op (ev_call (ea2 (ev_var rfl) ev_c) (spv_cell (j := 0) hs rfl)) ev_c (rv_mod (by decide)))) (by rw [en])) fun H1 e1 => ?_
    have hs1 := ex_l e1 hs
    refine q_asgL (el_call (ea3 (ev_var rfl) ev_c (ev_var rfl)) (xs := (lensL ns 1 n).map V.int) fun H1 e1 Q q E => ⟨a, ns, 1, n, rfl, ex_l e1 hs1, by omega, fun p H2 hp e2 h2 => q p H2 hp e2 h2⟩) fun pl H2 hpl e2 h2 => ?_
    have hok := lensL_ok ns 1 n
    have hlen := lensL_len ns 1 n
    generalize lensL ns 1 n = ls at *
    have hl2 : SqL K H2 pl (ls.map V.int) := sq_of h2
    have hl100 : ls.length ≤ 100 := by omega
    have e02 := e1.trans e2
    refine q_asg (v := .bl (codeB ls)) (ev_call1L (el_listOf (ev_var rfl) hl2) fun p H3 e3 h3 => sp_is_code (sq_of h3) hok hl100 ((e02.trans e3) P0 _ t0) ((e02.trans e3) P1 _ t1)) fun H3 e3 => ?_
    have e03 := e02.trans e3
    have hl3 := ex_l e3 hl2
    refine q_when (b := false) (et_orF (a := false) (et_is (et_test (ev_ne (i := roomL ls) (j := roomL ls) (ev_call1L (el_listOf (ev_var rfl) hl3) fun p H4 e4 h4 => sp_room (sq_of h4) hok hl100 ((e03.trans e4) P0 _ t0)) (ev_call (ea1 (ev_var rfl)) (sp_lroom hl3 hok hl100)))) (by simp))
      (et_is (et_not (et_B (ev_isBool (ev_var rfl)))) rfl)) (fun z => by cases z) fun _ H4 e4 => ?_
    have hl4 := ex_l e4 hl3
    have hne : ls ≠ [] := fun z => by rw [z] at hlen; simp at hlen; omega
    obtain ⟨m, hm, hmax⟩ := max_of ls hne
    refine q_when (b := false) (et_is (et_test (ev_op (ev_var rfl) (ev_andV (ev_op (ev_call (ea1 (ev_var rfl)) (sp_lroom hl4 hok hl100)) ev_c rv_I0) fun _ => ev_op (ev_maxL (ev_var rfl) hl4 hm hmax) ev_c rv_I0) (rv_ne rfl))) ?_) (fun z => by cases z) fun _ H5 e5 => ?_
    · unfold codeB
      rw [any_max hok hm hmax]
      simp
    have e05 := (e03.trans e4).trans e5
    have hl5 := ex_l e5 hl4
    -- lengths that fit
    refine ⟨_, rfl, pl, ls, rfl, hl5, hok, hl100, by omega, fun pq H6 fs hpq e6 h6 hfit => ?_⟩
    obtain ⟨f1, f2, f3, f4⟩ := hfit
    have hf100 : fs.length ≤ 100 := by omega
    have hf6 : SqL K H6 pq (fs.map V.int) := sq_of h6
    refine q_asgL (el_listOf (ev_var rfl) hf6) fun pg H7 hpg e7 h7 => ?_
    have hf7 := ex_l e7 hf6
    have hg7 : SqL K H7 pg (fs.map V.int) := sq_of h7
    have e07 := (e05.trans e6).trans e7
    have hcode : codeB fs = true := by
      unfold codeB roomL
      obtain ⟨x, hx, hx0⟩ := f4
      rw [decide_eq_true (by omega : 1048576 - kraft fs ≥ 0), Bool.true_and]
      exact List.any_eq_true.mpr ⟨x, hx, by simp; omega⟩
    refine q_when (b := false) (et_orF (a := false) (et_is (et_not (et_B (ev_call (ea1 (ev_var rfl)) (sp_is_code hg7 f2 hf100 (e07 P0 _ t0) (e07 P1 _ t1))))) (by rw [hcode]; rfl))
      (et_is (et_test (ev_ne (i := roomL fs) (j := roomL fs) (ev_call (ea1 (ev_var rfl)) (sp_room hg7 f2 hf100 (e07 P0 _ t0))) (ev_call (ea1 (ev_var rfl)) (sp_lroom hf7 f2 hf100)))) (by simp))) (fun z => by cases z) fun _ H8 e8 => ?_
    have hf8 := ex_l e8 hf7
    have hg8 := ex_l e8 hg7
    have e08 := e07.trans e8
    -- due
    refine ⟨_, rfl, pq, fs, rfl, hf8, f2, hf100, f3, fun o hord pd vd H9 hpd e9 h9 htd => ?_⟩
    have hg9 := ex_l e9 hg8
    have hf9 := ex_l e9 hf8
    have e09 := e08.trans e9
    -- found
    refine ⟨_, rfl, pg, fs, o, rfl, hg9, f2, hf100, f3, e09 P2 _ t2, hord, fun pf vf H10 hpf e10 h10 htf => ?_⟩
    have hg10 := ex_l e10 hg9
    have hf10 := ex_l e10 hf9
    refine q_when (b := false) (et_orF (a := false) (et_is (et_test (ev_neD (ed_at (ev_var rfl) (dp_listI hg10)) (ed_at (ev_var rfl) (dp_listI hf10)) (shaped_ints _) (shaped_ints _))) (by rw [eqv_ints]; rfl))
      (et_orF (a := false) (et_is (et_not (et_B (ev_isList (ev_var rfl) h10))) rfl)
        (et_is (et_test (ev_neD (d := .list ((tabOf fs o).map optD)) (d2 := .list ((tabOf fs o).map optD)) (ed_at (ev_var rfl) (.lst (sq_of h10) (dp_tab htf))) (ed_at (ev_var rfl) (.lst (sq_of (e10 pd _ h9)) (dp_tab (htd.ext e10)))) (shaped_list (n := 10) (by decide) optD_lay optD_depth _) (shaped_list (n := 10) (by decide) optD_lay optD_depth _))) (by rw [eqv_list optD_eqv]; rfl)))) (fun z => by cases z) fun _ H11 e11 => ?_
    have hpfd : ∀ r, H9 r = none → r ≠ pd := fun r hr z => by rw [z, h9] at hr; cases hr
    have hfsn : fs.length = n := by omega
    have hvd : vd.length = n := by rw [htd.1, tab_len, hfsn]
    have hvf : vf.length = n := by rw [htf.1, tab_len, hfsn]
    refine q_forR1 (n := (n : Int)) (ea1 (ev_var rfl)) ⟨by omega, by omega⟩
      (fun i σ H' => ∃ c d, σ = [some (.ref a), some (.int (n : Int)), some (.ref pq), some (.bl (codeB ls)), some (.ref pg), some (.ref pd), some (.ref pf), c, d] ∧ Ex H9 H' ∧ H' pf = some (.lst vf) ∧ ∀ (k : Nat) r, vf[k]? = some (.ref r) → H9 r = none ∧ r ≠ pf ∧ ∃ ys, H' r = some (.lst ys) ∧ ys.length ≤ 100 + i)
      (fun H12 e12 => ⟨none, none, rfl, (e10.trans e11).trans e12, (e11.trans e12) pf _ h10, fun k r hk => ?_⟩) ?_ ?_
    · have hkl : k < fs.length := by
        have := (List.getElem?_eq_some_iff.mp hk).1
        omega
      have := htf.2 k _ _ hk (tab_at hkl)
      cases he : ent fs o k with
      | none => rw [he] at this; cases this
      | some bs =>
        rw [he] at this
        obtain ⟨r2, e2, b1, b2, b3⟩ := this
        cases e2
        refine ⟨b2, b1, _, (e11.trans e12) r _ b3, ?_⟩
        unfold ent at he
        split at he
        · have := Option.some.inj he
          rw [← this, List.length_map]
          unfold wd
          rw [bits_len]
          have := ln_le f2 k
          omega
        · cases he
    · rintro i σ H' hi ⟨c, d, rfl, eh, hlf, hrs⟩
      have hin : i < n := by omega
      refine q_forR1 (n := (n : Int)) (ea1 (ev_var rfl)) ⟨by omega, by omega⟩
        (fun j σ H3 => ∃ d, σ = [some (.ref a), some (.int (n : Int)), some (.ref pq), some (.bl (codeB ls)), some (.ref pg), some (.ref pd), some (.ref pf), some (.int (i : Int)), d] ∧ Ex H' H3) (fun H3 e3 => ⟨d, rfl, e3⟩) ?_ ?_
      · rintro j σ H3 hj ⟨d, rfl, e3⟩
        have hjn : j < n := by omega
        refine s_when (b := false) ?_ (fun z => by cases z) (fun _ H4 e4 => ⟨_, rfl, e3.trans e4⟩)
        have e93 := eh.trans e3
        have hdt := htd.ext e93
        have hd3 : SqL K H3 pd vd := sq_of (e93 pd _ h9)
        obtain ⟨va, hva⟩ : ∃ va, vd[i]? = some va := ⟨_, List.getElem?_eq_getElem (by omega)⟩
        obtain ⟨vb, hvb⟩ : ∃ vb, vd[j]? = some vb := ⟨_, List.getElem?_eq_getElem (by omega)⟩
        have hA := hdt.2 i va _ hva (tab_at (by omega))
        have hB := hdt.2 j vb _ hvb (tab_at (by omega))
        have hEa : Ev (tOp (rIxL K) (tVar 5) (tVar 7)) [some (.ref a), some (.int (n : Int)), some (.ref pq), some (.bl (codeB ls)), some (.ref pg), some (.ref pd), some (.ref pf), some (.int (i : Int)), some (.int (j : Int))] H3 va := ev_op (ev_var rfl) (ev_var rfl) (rv_ixL hd3 (at_of rfl hva))
        have hEb : Ev (tOp (rIxL K) (tVar 5) (tVar 8)) [some (.ref a), some (.int (n : Int)), some (.ref pq), some (.bl (codeB ls)), some (.ref pg), some (.ref pd), some (.ref pf), some (.int (i : Int)), some (.int (j : Int))] H3 vb := ev_op (ev_var rfl) (ev_var rfl) (rv_ixL hd3 (at_of rfl hvb))
        by_cases hij : i = j
        · exact et_andF (b := false) (et_is (et_test (ev_ne (i := (i : Int)) (j := (j : Int)) (ev_var rfl) (ev_var rfl))) (by rw [decide_eq_true (by omega)]; rfl))
        · refine et_andT (et_is (et_test (ev_ne (i := (i : Int)) (j := (j : Int)) (ev_var rfl) (ev_var rfl))) (by rw [decide_eq_false (by omega)]; rfl)) ?_
          by_cases hoa : i ∈ o
          · have ea : ent fs o i = some (wd fs (upTo o i) i) := if_pos hoa
            rw [ea] at hA
            obtain ⟨ra, rfl, _, _, hra⟩ := hA
            refine et_andT (et_is (et_test (ev_notN hEa)) rfl) ?_
            by_cases hob : j ∈ o
            · have eb : ent fs o j = some (wd fs (upTo o j) j) := if_pos hob
              rw [eb] at hB
              obtain ⟨rb, rfl, _, _, hrb⟩ := hB
              refine et_andT (et_is (et_test (ev_notN hEb)) rfl) ?_
              have hwl : ((wd fs (upTo o i) i).map V.int).length = lnA fs i := by rw [List.length_map]; exact bits_len _ _
              refine et_is (et_test (ev_eqD (d := .list (((wd fs (upTo o j) j).take (lnA fs i)).map PyData.int)) (d2 := .list ((wd fs (upTo o i) i).map PyData.int)) (ed_listI ?_) (ed_at hEa (dp_listI (sq_of hra))) (shaped_ints _) (shaped_ints _))) ?_
              · have h1 := el_sl (K := K) (hi := some (((wd fs (upTo o i) i).map V.int).length : Int)) hEb eo_none (eo_some (ev_len (K := K) hEa (sq_of hra))) (sq_of hrb)
                rw [cutV_to, hwl, ← List.map_take] at h1
                exact h1
              · simp only [PyData.eqv]
                rw [eqvAll_ints]
                exact decide_eq_false (free f2 hord f3 hoa hob hij)
            · have eb : ent fs o j = none := if_neg hob
              rw [eb] at hB
              have hB' : vb = .non := hB
              subst hB'
              exact et_andF (b := false) (et_is (et_test (ev_notN hEb)) rfl)
          · have ea : ent fs o i = none := if_neg hoa
            rw [ea] at hA
            have hA' : va = .non := hA
            subst hA'
            exact et_andF (b := false) (et_is (et_test (ev_notN hEa)) rfl)
      · rintro σ H3 ⟨d, rfl, e3⟩
        have hl3 := e3 pf _ hlf
        obtain ⟨v, hv⟩ : ∃ v, vf[i]? = some v := ⟨_, List.getElem?_eq_getElem (by omega)⟩
        have hEv : Ev (tOp (rIxL K) (tVar 6) (tVar 7)) [some (.ref a), some (.int (n : Int)), some (.ref pq), some (.bl (codeB ls)), some (.ref pg), some (.ref pd), some (.ref pf), some (.int (i : Int)), d] H3 v := ev_op (ev_var rfl) (ev_var rfl) (rv_ixL (sq_of hl3) (at_of rfl hv))
        refine s_when (et_test (ev_notN hEv)) (fun hb H4 e4 => ?_) (fun hb H4 e4 => ?_)
        · have hvr : ∃ r, v = .ref r := by
            have := htf.2 i v _ hv (tab_at (by omega))
            cases he : ent fs o i with
            | none =>
              rw [he] at this
              have hz : v = .non := this
              rw [hz] at hb
              cases hb
            | some bs =>
              rw [he] at this
              obtain ⟨r, e2, _⟩ := this
              exact ⟨r, e2⟩
          obtain ⟨r, rfl⟩ := hvr
          obtain ⟨g1, g2, ys, g3, g4⟩ := hrs i r hv
          have e34 := e3.trans e4
          refine s_app (l := r) (xs := ys) (e34 r _ g3) (hEv.mono e4) ev_c (by omega) fun H5 e5 => ?_
          have e35 := e34.trans e5
          refine ⟨_, _, rfl, Ex.mut (eh.trans e35) g1, by rw [upd_ne (fun z => g2 z.symm)]; exact e35 pf _ hlf, fun k r2 hk => ?_⟩
          obtain ⟨k1, k2, zs, k3, k4⟩ := hrs k r2 hk
          refine ⟨k1, k2, ?_⟩
          by_cases hrr : r2 = r
          · subst hrr
            have hyz : zs = ys := by
              rw [k3] at g3
              injection g3 with g3
              injection g3
            subst hyz
            exact ⟨_, upd_same, by rw [List.length_append, List.length_singleton]; omega⟩
          · exact ⟨zs, by rw [upd_ne hrr]; exact e35 r2 _ k3, by omega⟩
        · have e34 := e3.trans e4
          refine ⟨_, _, rfl, eh.trans e34, e34 pf _ hlf, fun k r2 hk => ?_⟩
          obtain ⟨k1, k2, zs, k3, k4⟩ := hrs k r2 hk
          exact ⟨k1, k2, zs, e34 r2 _ k3, by omega⟩
    · rintro σ H' ⟨c, d, rfl, eh, hlf, hrs⟩
      refine s_ret (v := .bl true) (ev_is (ev_eqD (d := .list ((tabOf fs o).map optD)) (d2 := .list ((tabOf fs o).map optD)) (ed_call (ea1 (ev_var rfl)) fun H1 e1 Q q E => ⟨pg, fs, o, rfl, ex_l (eh.trans e1) hg9, f2, hf100, f3, ((e09.trans eh).trans e1) P2 _ t2, hord, fun p vs H2 hp e2 h2 htf => q _ H2 e2 (.lst (sq_of h2) (dp_tab htf))⟩)
        (ed_at (ev_var rfl) (.lst (sq_of (eh pd _ h9)) (dp_tab (htd.ext eh)))) (shaped_list (n := 10) (by decide) optD_lay optD_depth _) (shaped_list (n := 10) (by decide) optD_lay optD_depth _)) (by rw [eqv_list optD_eqv])) fun H12 e12 => q H12 ((e09.trans eh).trans e12)
end
end K01
set_option Elab.async false
set_option linter.all false
set_option maxRecDepth 100000
set_option maxHeartbeats 4000000
/-! The end of a law: the head's heap, the script, tables of code objects followed as TabX. -/
namespace KC
open PySem PySem.Spec PyProof.Rows L2 GX Evl
def tabO : Obj := { cls := .none, data := .fields #[] }
/-- tables that stand empty in h, out of the frozen part, of known code objects -/
structure Tbs (K : PySem.W.Frag) (h : Heap) (cs : List (Addr × Addr)) : Prop where
  emp : ∀ p ∈ cs, h.get? p.2 = some tabO
  out : ∀ p ∈ cs, K.lookup p.2 = none
  cod : ∀ p ∈ cs, PySem.W.CodeHd h p.1 p.2
structure Hd0 (K : PySem.W.Frag) (mg mb : Str → Option Value) (s : Shared) : Prop where
  kin : K.In s.heap
  glo : s.heap.Ns mainGlobals mg
  blt : s.heap.Ns builtinsNs mb
  boo : ∀ y : Str, y ≠ "__name__" → mb y = bootBuiltins y
  lim : s.heap.NoLimit
  gen : s.gens = #[]
  bmo : ∃ (bm : Addr) (o : Obj), mg "__builtins__" = some (.ref bm) ∧ bm ≠ builtinsNs ∧ s.heap.get? bm = some o ∧ o.cls = .type "module" ∧ o.dict = some builtinsNs ∧ o.data = .plain
/-- the start: the tables, and the script where it is not frozen -/
def H0 (cs : List (Addr × Addr)) (a : Addr) (u : Option HO) : Hp := fun b => if b ∈ cs.map Prod.snd then some (TabX b) else if b = a then u else none
theorem h0_tab {cs : List (Addr × Addr)} {a b : Addr} {u : Option HO} (m : b ∈ cs.map Prod.snd) : H0 cs a u b = some (TabX b) := if_pos m
theorem h0_a {cs : List (Addr × Addr)} {a : Addr} {u : Option HO} (m : a ∉ cs.map Prod.snd) : H0 cs a u a = u := (if_neg m).trans (if_pos rfl)
theorem h0_no {cs : List (Addr × Addr)} {a b : Addr} {u : Option HO} (m : b ∉ cs.map Prod.snd) (n : b ≠ a) : H0 cs a u b = none := (if_neg m).trans (if_neg n)
section
variable {P : Program} {w : World} {K : PySem.W.Frag} {mg mb : Str → Option Value} {CX : CXT} {s : Shared} {cs : List (Addr × Addr)} {a : Addr} {u : Option HO} {vs : List Value}
theorem Tbs.at_ {h : Heap} (T : Tbs K h cs) {b : Addr} (m : b ∈ cs.map Prod.snd) : h.get? b = some tabO := by
  obtain ⟨p, hp, rfl⟩ := List.mem_map.mp m
  exact T.emp p hp
/-- an object that is neither a list nor a table is not followed -/
theorem h0_free (T : Tbs K s.heap cs) (ha : s.heap.get? a = some { cls := .type "list", data := .seq vs.toArray }) {b : Addr} {o : Obj} (e : s.heap.get? b = some o) (d1 : ∀ xs k, o.data ≠ .seq xs k) (d2 : o.data ≠ .fields #[]) : H0 cs a u b = none := by
  refine h0_no (fun m => ?_) fun z => ?_
  · have q := T.at_ m
    rw [e] at q
    exact d2 (by rw [Option.some.inj q] <;> rfl)
  · subst z
    rw [e] at ha
    exact d1 _ _ (congrArg Obj.data (Option.some.inj ha))
theorem dict_free {o : Obj} {es : Array DictEntry} {ep : Nat} (d : o.data = .dict es ep) : (∀ xs k, o.data ≠ .seq xs k) ∧ o.data ≠ .fields #[] := by
  rw [d]
  exact ⟨fun _ _ z => (nomatch z), fun z => (nomatch z)⟩
theorem plain_free {o : Obj} (d : o.data = .plain) : (∀ xs k, o.data ≠ .seq xs k) ∧ o.data ≠ .fields #[] := by
  rw [d]
  exact ⟨fun _ _ z => (nomatch z), fun z => (nomatch z)⟩
/-- the ground under the law's def -/
structure Grd (P : Program) (w : World) (K : PySem.W.Frag) (mg : Str → Option Value) (cs : List (Addr × Addr)) (H : Hp) (s : Shared) : Prop where
  env : Env0 P w K mg (hidT s.heap H) callerA [] s H
  kin : K.In (hidT s.heap H)
  glo : (hidT s.heap H).Ns mainGlobals mg
  tab : ∀ p ∈ cs, GxR.TabB (hidT s.heap H) mg p.1 p.2
theorem grd_of (D : Hd0 K mg mb s) (T : Tbs K s.heap cs) (ha : s.heap.get? a = some { cls := .type "list", data := .seq vs.toArray }) (hu : u ≠ none → K.lookup a = none) (ok : HOk P w (H0 cs a u) s.heap) : Grd P w K mg cs (H0 cs a u) s := by
  have down : ∀ {b : Addr} {o : Obj}, s.heap.get? b = some o → (∀ xs k, o.data ≠ .seq xs k) ∧ o.data ≠ .fields #[] → (hidT s.heap (H0 cs a u)).get? b = some o := fun e d => hidT_get e (h0_free T ha e d.1 d.2)
  have ns : ∀ {b : Addr} {m : Str → Option Value}, s.heap.Ns b m → (hidT s.heap (H0 cs a u)).Ns b m := fun x => by
    obtain ⟨o, es, ep, e, d, r⟩ := x
    exact ⟨o, es, ep, down e (dict_free d), d, r⟩
  have kin : K.In (hidT s.heap (H0 cs a u)) := fun b o e => by
    refine hidT_get (D.kin b o e) ?_
    by_cases m : b ∈ cs.map Prod.snd
    · obtain ⟨p, hp, rfl⟩ := List.mem_map.mp m
      rw [T.out p hp] at e
      cases e
    · by_cases z : b = a
      · subst z
        rw [h0_a m]
        cases hu1 : u with
        | none => rfl
        | some v =>
          rw [hu (by rw [hu1]; exact Option.some_ne_none v)] at e
          cases e
      · exact h0_no m z
  refine ⟨⟨rfl, ⟨kin, ns D.glo, ⟨mb, ns D.blt, D.boo⟩, ?_⟩, fun b o e => of_hidT e, Nat.le_of_eq (hidT_size _ _), trivial, fun b hb => absurd (show b ∈ ([] : List Addr) from hb) List.not_mem_nil, ok, .of_eq D.gen⟩, kin, ns D.glo, fun p hp => ⟨?_, ?_, fun z => ?_⟩⟩
  · obtain ⟨mc, n1, n2⟩ := D.lim
    exact ⟨mc, ns n1, n2⟩
  · obtain ⟨o, us, f1, f2, f3, f4, f5, f6, f7, e, c1, c2, c3, rest⟩ := T.cod p hp
    refine ⟨o, us, f1, f2, f3, f4, f5, f6, f7, down e ?_, c1, c2, c3, rest⟩
    rw [c2]
    refine ⟨fun _ _ z => (nomatch z), fun z => ?_⟩
    have z' : us = #[] := by injection z
    rw [z'] at c3
    simp at c3
  · obtain ⟨bm, o, b1, b2, b3, b4, b5, b6⟩ := D.bmo
    have g1 : bm ≠ mainGlobals := fun z => by
      obtain ⟨og, es, ep, e, d, _⟩ := D.glo
      rw [← z, b3] at e
      rw [← Option.some.inj e, b6] at d
      cases d
    have g2 : bm ≠ p.2 := fun z => by
      have q := T.emp p hp
      rw [← z, b3] at q
      rw [Option.some.inj q] at b6
      cases b6
    exact ⟨bm, o, b1, b2, g1, g2, down b3 (plain_free b6), b4, b5, b6⟩
  · obtain ⟨og, es, ep, e, d, _⟩ := D.glo
    have q := T.emp p hp
    rw [← z, e] at q
    rw [Option.some.inj q] at d
    cases d
/-- the law is called with its script -/
theorem law_callX {k : Nat} {fa : Addr} {fd : FuncData} {x : Str} {sp : Sp} {ns : List Int} (D : Hd0 K mg mb s) (T : Tbs K s.heap cs) (ha : s.heap.get? a = some { cls := .type "list", data := .seq vs.toArray }) (hi : IntsAre vs ns) (hl : ns.length ≤ sizeLine) (hr : Room k callerA)
    (ok : ∀ base : Heap, K.In base → base.Ns mainGlobals mg → (∀ p ∈ cs, GxR.TabB base mg p.1 p.2) → FnOk P w K mg base CX k fa fd [x] sp) (bd : ∀ (s : Shared) (v : Value), BindsTo s fd ⟨[v], []⟩ [(x, v)])
    (hsp : ∀ H : Hp, (∀ p ∈ cs, H p.2 = some (TabX p.2)) → SqL K H a (ns.map V.int) → sp [.ref a] H (fun v H' => v = .bl true ∧ ∀ p ∈ cs, H' p.2 = some (TabX p.2)) fun _ _ _ => False)
    (hx : ∀ H e s', CX [] H s (fun _ _ _ => False) e s' → False) :
    codeAny (model P w) callerA (.call (.ref fa) ⟨[.ref a], []⟩) (fun r s' => r = .ok (.ret (.bool true)) ∧ OldK s.heap s'.heap ∧ s'.os = s.os ∧ AllBare s'.gens) s := by
  have rv := vals_ints hi
  have anot : a ∉ cs.map Prod.snd := fun m => by
    have q := T.at_ m
    rw [ha] at q
    have q2 := congrArg Obj.data (Option.some.inj q)
    cases q2
  have tabs : ∀ {u : Option HO}, ∀ p ∈ cs, H0 cs a u p.2 = some (TabX p.2) := fun p hp => h0_tab (List.mem_map.mpr ⟨p, hp, rfl⟩)
  -- whatever is followed of the script
  have go : ∀ u : Option HO, (u = none ∨ u = some (.frz { cls := .type "list", data := .seq vs.toArray } (.lst (ns.map V.int)))) → (u ≠ none → K.lookup a = none) → SqL K (H0 cs a u) a (ns.map V.int) →
      codeAny (model P w) callerA (.call (.ref fa) ⟨[.ref a], []⟩) (fun r s' => r = .ok (.ret (.bool true)) ∧ OldK s.heap s'.heap ∧ s'.os = s.os ∧ AllBare s'.gens) s := fun u hu hk hs => by
    have hok : HOk P w (H0 cs a u) s.heap := fun b o e => by
      by_cases m : b ∈ cs.map Prod.snd
      · rw [h0_tab m] at e
        cases e
        exact tabx_ok (T.at_ m) (show TriplesOk [] from trivial)
      · by_cases z : b = a
        · subst z
          rw [h0_a m] at e
          rcases hu with rfl | rfl
          · cases e
          · cases e
            exact ⟨ha, by rw [List.length_map]; exact hl, vs, 0, rv, ha⟩
        · rw [h0_no m z] at e
          cases e
    have G := grd_of (u := u) D T ha hk hok
    refine codeAny_mono ((ok _ G.kin G.glo G.tab).run callerA [] s _ ⟨[.ref a], []⟩ [.ref a] [.ref a] _ _ hr G.env (bd s (.ref a)) (.cons rfl .nil) (hsp _ tabs hs)) fun r s' h => ?_
    match r, h with
    | .error e, h => exact (hx _ e s' h).elim
    | .ok .next, h => exact False.elim h
    | .ok .brk, h => exact False.elim h
    | .ok .cont, h => exact False.elim h
    | .ok (.ret v0), h =>
      obtain ⟨v, H', os, bare, un, hok', r', q, qt⟩ := h
      subst q
      obtain rfl : v0 = Value.bool true := r'
      have same : ∀ b o, b ∉ cs.map Prod.snd → s.heap.get? b = some o → s'.heap.get? b = some o := fun b o m e => by
        by_cases z : b = a
        · subst z
          rcases hu with rfl | rfl
          · exact un.keep b o e (h0_a m) List.not_mem_nil List.not_mem_nil
          · have f2 := hok' b _ (un.frzs b _ _ (h0_a m))
            rw [ha] at e
            rw [← Option.some.inj e]
            exact f2.1
        · exact un.keep b o e (h0_no m z) List.not_mem_nil List.not_mem_nil
      have grew : ∀ p ∈ cs, ∃ more : Array Value, s'.heap.get? p.2 = some { cls := .none, data := .fields more } := fun p hp => by
        obtain ⟨⟨more, e, _⟩, _⟩ := hok' p.2 _ (qt p hp)
        exact ⟨more, e⟩
      refine ⟨rfl, ⟨fun b o e => ?_, fun b o e => ?_⟩, os, bare⟩
      · by_cases m : b ∈ cs.map Prod.snd
        · obtain ⟨p, hp, rfl⟩ := List.mem_map.mp m
          obtain ⟨more, g⟩ := grew p hp
          have eo : o = tabO := Option.some.inj (e.symm.trans (T.emp p hp))
          subst eo
          exact .inr (.inl ⟨((T.cod p hp).tab (ps := #[]) (T.emp p hp)).isCodeTable, rfl, #[], more, rfl, by rw [Array.empty_append]; exact g⟩)
        · exact .inl (same b o m e)
      · by_cases m : b ∈ cs.map Prod.snd
        · obtain ⟨p, hp, rfl⟩ := List.mem_map.mp m
          obtain ⟨more, g⟩ := grew p hp
          exact ⟨_, g⟩
        · exact ⟨o, same b o m e⟩
  cases hk : K.lookup a with
  | none => exact go _ (.inr rfl) (fun _ => hk) (.inl (.inr ⟨_, h0_a anot⟩))
  | some o =>
    have e := (D.kin a o hk).symm.trans ha
    have eo := Option.some.inj e
    subst eo
    exact go none (.inl rfl) (fun z => absurd rfl z) (.inr ⟨_, vs.toArray, _, hk, rfl, rfl, rfl, by rw [List.size_toArray, hi.length]; exact hl, by simpa using rv⟩)
end
/-- what the head's defs have: their code objects, with empty tables -/
def Rec0 (q : Program) (mg : Str → Option Value) (h : Heap) : Prop := ∀ d ∈ recsOf q, ∃ a o fd c P, mg d.name = some (.ref a) ∧ h.get? a = some o ∧ o.data = .func fd ∧ fd.code = .ref c ∧ h.IsCode c P #[] ∧ h.TableAt c P #[]
theorem tab_emp {q : Program} {mg : Str → Option Value} {h : Heap} {K : PySem.W.Frag} (R : Rec0 q mg h) (X : K.In h) {nm : Str} {f c Pt : Addr} {fd : FuncData} {e : Value} {dd : Option Addr} {sl : Array (Option Value)}
    (hrec : ((recsOf q).any fun e => e.name == nm) = true) (hm : mg nm = some (.ref f)) (hk : K.lookup f = some ⟨e, dd, .func fd, sl⟩) (hc : fd.code = .ref c) (C : PySem.W.CodeHd h c Pt) : h.get? Pt = some tabO := by
  obtain ⟨d, hd, hn⟩ := List.any_eq_true.mp hrec
  obtain ⟨f1, o1, fd1, c1, P1, e1, e2, e3, e4, _, ⟨⟨oc, vc, g1, _, g3, g4⟩, g5⟩⟩ := R d hd
  rw [beq_iff_eq.mp hn, hm] at e1
  have ef : f = f1 := Value.ref.inj (Option.some.inj e1)
  subst ef
  rw [X f _ hk] at e2
  have eo := Option.some.inj e2
  subst eo
  have efd : fd = fd1 := by injection e3
  subst efd
  rw [hc] at e4
  have ec : c = c1 := Value.ref.inj e4
  subst ec
  obtain ⟨o2, us, _, _, _, _, _, _, _, k1, _, k2, k3, _⟩ := C
  rw [k1] at g1
  have eo2 := Option.some.inj g1
  subst eo2
  rw [k2] at g3
  have eu : us = vc := by injection g3
  subst eu
  rw [k3] at g4
  have eP : Pt = P1 := Value.ref.inj (Option.some.inj g4)
  subst eP
  exact g5
def LawX (l : PySem.W.OpenLaw) (w : World) (K : PySem.W.Frag) (CX : CXT) (k n : Nat) (x : Str) (mg : Str → Option Value) (fa : Addr) (h : Heap) : Prop :=
  ∃ (fd : FuncData) (cs : List (Addr × Addr)) (sp : Sp), Tbs K h cs ∧ (∀ (s : Shared) (v : Value), BindsTo s fd ⟨[v], []⟩ [(x, v)]) ∧
    (∀ (H : Hp) (a : Addr) (ns : List Int), ns.length ≤ n → (∀ z ∈ ns, Builtin.Int.intBits z ≤ 1048576) → (∀ p ∈ cs, H p.2 = some (TabX p.2)) → SqL K H a (ns.map V.int) → sp [.ref a] H (fun v H' => v = .bl true ∧ ∀ p ∈ cs, H' p.2 = some (TabX p.2)) fun _ _ _ => False) ∧
    ∀ base : Heap, K.In base → base.Ns mainGlobals mg → (∀ p ∈ cs, GxR.TabB base mg p.1 p.2) → FnOk l.prog w K mg base CX k fa fd [x] sp
theorem walk_X {l : PySem.W.OpenLaw} {n k : Nat} {q : Program} {loose : List Str} {XP : (Str → Option Value) → Heap → Prop} {YP : World → Heap → Prop} {d : DefRec} {Kf : Params → PySem.W.Frag} {CX : World → CXT} {x : Str}
    (h1 : l.most = some n) (h2 : n ≤ sizeLine) (h3 : d.params.defaults = []) (h4 : Room k callerA) (h5 : ∀ (w : World) (h : Heap), YP w h → (Kf w.params).In h)
    (F : ∀ (w : World) (mg : Str → Option Value) (fa : Addr) (h : Heap), YP w h → (Kf w.params).In h → h.Ns mainGlobals mg → mg d.name = some (.ref fa) → Rec0 q mg h → LawX l w (Kf w.params) (CX w) k n x mg fa h)
    (h6 : ∀ (w : World) (H : Hp) (s : Shared) (e : Value) (s' : Shared), CX w [] H s (fun _ _ _ => False) e s' → False) :
    PySem.W.WalkO q loose XP YP l.row.toRowW d [] (fun f vs => PySem.call f vs) := by
  refine Att.attach_callB h1 h3 fun w _ s₁ mg mb fa o pm cd doc a vs ns G Y _ _ _ hmg hobj hints hlen hbits hg => ?_
  have X := h5 w _ Y
  obtain ⟨fd, cs, sp, T, bd, hsp, ok⟩ := F w mg fa _ Y X G.T.g hmg G.T.tab
  exact law_callX ⟨X, G.T.g, G.T.b, G.T.builtins, G.T.nolimit, hg, G.T.bmain⟩ T hobj hints (Nat.le_trans hlen h2) h4 ok bd (fun H hT hS => hsp H a ns hlen hbits hT hS) fun H e s' => h6 w H s₁ e s'
end KC
set_option Elab.async false
set_option linter.all false
set_option maxRecDepth 100000
set_option maxHeartbeats 4000000
namespace K01
open PySem PySem.Spec PyProof.Rows L2 GX KC Evl M01
theorem top_of {l : PySem.W.OpenLaw} {q : Program} {w : World} {K : PySem.W.Frag} {h : Heap} {mg : Str → Option Value} {fa : Addr} (X : K.In h) (G : h.Ns mainGlobals mg) (R : Rec0 q mg h) (hfa : mg "law" = some (.ref fa)) (r0 : ((recsOf q).any fun e => e.name == "room") = true)  (r1 : ((recsOf q).any fun e => e.name == "is_code") = true)  (r3 : ((recsOf q).any fun e => e.name == "words") = true)
    {tk : Tok}
    {f0 : Addr} {od0 an0 : Option Addr} {sl0 : Array (Option Value)} {oc0 kV0 dc0 pm0 ct0 : Value} {g0 P0 : Addr} {vc0 : Value} {vd0 : Option Addr} {us0 : Array Value} {vl0 : Array (Option Value)}
    (a0 : PySem.W.nsIn K mainGlobals "room" = some (some (.ref f0))) (l0 : K.lookup f0 = some ⟨oc0, od0, .func (PySem.W.fnOf "room" "room" (defArgs s_room) (defBody s_room) (defScope s_room) .none kV0 dc0 pm0 an0 (.ref g0) ct0), sl0⟩) (c0 : PySem.W.codeIn K (.ref g0) "room" = true) (k0 : PySem.W.keepIn K (.ref f0) = true)
    (v0 : K.lookup g0 = some ⟨vc0, vd0, .fields us0, vl0⟩) (p0 : us0[11]? = some (.ref P0)) (t0 : PySem.W.codeHdIn K g0 P0 = true) (n0 : K.lookup P0 = none)
    {f1 : Addr} {od1 an1 : Option Addr} {sl1 : Array (Option Value)} {oc1 kV1 dc1 pm1 ct1 : Value} {g1 P1 : Addr} {vc1 : Value} {vd1 : Option Addr} {us1 : Array Value} {vl1 : Array (Option Value)}
    (a1 : PySem.W.nsIn K mainGlobals "is_code" = some (some (.ref f1))) (l1 : K.lookup f1 = some ⟨oc1, od1, .func (PySem.W.fnOf "is_code" "is_code" (defArgs s_is_code) (defBody s_is_code) (defScope s_is_code) .none kV1 dc1 pm1 an1 (.ref g1) ct1), sl1⟩) (c1 : PySem.W.codeIn K (.ref g1) "is_code" = true) (k1 : PySem.W.keepIn K (.ref f1) = true)
    (v1 : K.lookup g1 = some ⟨vc1, vd1, .fields us1, vl1⟩) (p1 : us1[11]? = some (.ref P1)) (t1 : PySem.W.codeHdIn K g1 P1 = true) (n1 : K.lookup P1 = none)
    {f2 : Addr} {od2 an2 : Option Addr} {sl2 : Array (Option Value)} {oc2 kV2 dc2 pm2 ct2 : Value} {cd2 : Value}
    (a2 : PySem.W.nsIn K mainGlobals "field_bits" = some (some (.ref f2))) (l2 : K.lookup f2 = some ⟨oc2, od2, .func (PySem.W.fnOf "field_bits" "field_bits" (defArgs s_field_bits) (defBody s_field_bits) (defScope s_field_bits) .none kV2 dc2 pm2 an2 cd2 ct2), sl2⟩) (c2 : PySem.W.codeIn K cd2 "field_bits" = true) (k2 : PySem.W.keepIn K (.ref f2) = true)
    {f3 : Addr} {od3 an3 : Option Addr} {sl3 : Array (Option Value)} {oc3 kV3 dc3 pm3 ct3 : Value} {g3 P2 : Addr} {vc3 : Value} {vd3 : Option Addr} {us3 : Array Value} {vl3 : Array (Option Value)}
    (a3 : PySem.W.nsIn K mainGlobals "words" = some (some (.ref f3))) (l3 : K.lookup f3 = some ⟨oc3, od3, .func (PySem.W.fnOf "words" "words" (defArgs s_words) (defBody s_words) (defScope s_words) .none kV3 dc3 pm3 an3 (.ref g3) ct3), sl3⟩) (c3 : PySem.W.codeIn K (.ref g3) "words" = true) (k3 : PySem.W.keepIn K (.ref f3) = true)
    (v3 : K.lookup g3 = some ⟨vc3, vd3, .fields us3, vl3⟩) (p3 : us3[11]? = some (.ref P2)) (t3 : PySem.W.codeHdIn K g3 P2 = true) (n3 : K.lookup P2 = none)
    {f4 : Addr} {od4 an4 : Option Addr} {sl4 : Array (Option Value)} {oc4 kV4 dc4 pm4 ct4 : Value} {cd4 : Value}
    (a4 : PySem.W.nsIn K mainGlobals "_law_cell" = some (some (.ref f4))) (l4 : K.lookup f4 = some ⟨oc4, od4, .func (PySem.W.fnOf "_law_cell" "_law_cell" (defArgs s_law_cell) (defBody s_law_cell) (defScope s_law_cell) .none kV4 dc4 pm4 an4 cd4 ct4), sl4⟩) (c4 : PySem.W.codeIn K cd4 "_law_cell" = true) (k4 : PySem.W.keepIn K (.ref f4) = true)
    {f5 : Addr} {od5 an5 : Option Addr} {sl5 : Array (Option Value)} {oc5 kV5 dc5 pm5 ct5 : Value} {cd5 : Value}
    (a5 : PySem.W.nsIn K mainGlobals "_law_lengths" = some (some (.ref f5))) (l5 : K.lookup f5 = some ⟨oc5, od5, .func (PySem.W.fnOf "_law_lengths" "_law_lengths" (defArgs s_law_lengths) (defBody s_law_lengths) (defScope s_law_lengths) .none kV5 dc5 pm5 an5 cd5 ct5), sl5⟩) (c5 : PySem.W.codeIn K cd5 "_law_lengths" = true) (k5 : PySem.W.keepIn K (.ref f5) = true)
    {f6 : Addr} {od6 an6 : Option Addr} {sl6 : Array (Option Value)} {oc6 kV6 dc6 pm6 ct6 : Value} {cd6 : Value}
    (a6 : PySem.W.nsIn K mainGlobals "_law_room" = some (some (.ref f6))) (l6 : K.lookup f6 = some ⟨oc6, od6, .func (PySem.W.fnOf "_law_room" "_law_room" (defArgs s_law_room) (defBody s_law_room) (defScope s_law_room) .none kV6 dc6 pm6 an6 cd6 ct6), sl6⟩) (c6 : PySem.W.codeIn K cd6 "_law_room" = true) (k6 : PySem.W.keepIn K (.ref f6) = true)
    {f7 : Addr} {od7 an7 : Option Addr} {sl7 : Array (Option Value)} {oc7 kV7 dc7 pm7 ct7 : Value} {cd7 : Value}
    (a7 : PySem.W.nsIn K mainGlobals "_law_fitting" = some (some (.ref f7))) (l7 : K.lookup f7 = some ⟨oc7, od7, .func (PySem.W.fnOf "_law_fitting" "_law_fitting" (defArgs s_law_fitting) (defBody s_law_fitting) (defScope s_law_fitting) .none kV7 dc7 pm7 an7 cd7 ct7), sl7⟩) (c7 : PySem.W.codeIn K cd7 "_law_fitting" = true) (k7 : PySem.W.keepIn K (.ref f7) = true)
    {f8 : Addr} {od8 an8 : Option Addr} {sl8 : Array (Option Value)} {oc8 kV8 dc8 pm8 ct8 : Value} {cd8 : Value}
    (a8 : PySem.W.nsIn K mainGlobals "_law_words" = some (some (.ref f8))) (l8 : K.lookup f8 = some ⟨oc8, od8, .func (PySem.W.fnOf "_law_words" "_law_words" (defArgs s_law_words) (defBody s_law_words) (defScope s_law_words) .none kV8 dc8 pm8 an8 cd8 ct8), sl8⟩) (c8 : PySem.W.codeIn K cd8 "_law_words" = true) (k8 : PySem.W.keepIn K (.ref f8) = true)
    {f9 : Addr} {od9 an9 : Option Addr} {sl9 : Array (Option Value)} {oc9 kV9 dc9 pm9 ct9 : Value} {cd9 : Value}
    (a9 : PySem.W.nsIn K mainGlobals "law" = some (some (.ref f9))) (l9 : K.lookup f9 = some ⟨oc9, od9, .func (PySem.W.fnOf "law" "law" (defArgs s_law) (defBody s_law) (defScope s_law) .none kV9 dc9 pm9 an9 cd9 ct9), sl9⟩) (c9 : PySem.W.codeIn K cd9 "law" = true) (k9 : PySem.W.keepIn K (.ref f9) = true)
    (z_len : PySem.W.nsIn K mainGlobals "len" = some none)
    (z_int : PySem.W.nsIn K mainGlobals "int" = some none)
    (z_min : PySem.W.nsIn K mainGlobals "min" = some none)
    (z_max : PySem.W.nsIn K mainGlobals "max" = some none)
    (z_list : PySem.W.nsIn K mainGlobals "list" = some none)
    (z_sorted : PySem.W.nsIn K mainGlobals "sorted" = some none)
    (z_sum : PySem.W.nsIn K mainGlobals "sum" = some none)
    (z_range : PySem.W.nsIn K mainGlobals "range" = some none)
    (z_enumerate : PySem.W.nsIn K mainGlobals "enumerate" = some none)
    (z_zip : PySem.W.nsIn K mainGlobals "zip" = some none)
    (z_any : PySem.W.nsIn K mainGlobals "any" = some none)
    (z_isinstance : PySem.W.nsIn K mainGlobals "isinstance" = some none)
    (z_bool : PySem.W.nsIn K mainGlobals "bool" = some none)
    (z_reversed : PySem.W.nsIn K mainGlobals "reversed" = some none)
    (y_LONGEST : PySem.W.nsIn K mainGlobals "LONGEST" = some (some (.int 20 tk)))
    : LawX l w K CX0 9 63 "script" mg fa h := by
  have e := hfa.symm.trans (PySem.W.mg_of X G a9)
  cases e
  have hd0 : PySem.W.CodeHd h g0 P0 := PySem.W.codeHd_of_K X t0
  have em0 : h.get? P0 = some tabO := tab_emp R X r0 (PySem.W.mg_of X G a0) l0 rfl hd0
  have hd1 : PySem.W.CodeHd h g1 P1 := PySem.W.codeHd_of_K X t1
  have em1 : h.get? P1 = some tabO := tab_emp R X r1 (PySem.W.mg_of X G a1) l1 rfl hd1
  have hd3 : PySem.W.CodeHd h g3 P2 := PySem.W.codeHd_of_K X t3
  have em3 : h.get? P2 = some tabO := tab_emp R X r3 (PySem.W.mg_of X G a3) l3 rfl hd3
  have T1 : ∀ p ∈ ([(g0, P0), (g1, P1), (g3, P2)] : List (Addr × Addr)), h.get? p.2 = some tabO := by
    intro p hp
    simp only [List.mem_cons, List.not_mem_nil, or_false] at hp
    rcases hp with rfl | rfl | rfl
    · exact em0
    · exact em1
    · exact em3
  have T2 : ∀ p ∈ ([(g0, P0), (g1, P1), (g3, P2)] : List (Addr × Addr)), K.lookup p.2 = none := by
    intro p hp
    simp only [List.mem_cons, List.not_mem_nil, or_false] at hp
    rcases hp with rfl | rfl | rfl
    · exact n0
    · exact n1
    · exact n3
  have T3 : ∀ p ∈ ([(g0, P0), (g1, P1), (g3, P2)] : List (Addr × Addr)), PySem.W.CodeHd h p.1 p.2 := by
    intro p hp
    simp only [List.mem_cons, List.not_mem_nil, or_false] at hp
    rcases hp with rfl | rfl | rfl
    · exact hd0
    · exact hd1
    · exact hd3
  refine ⟨PySem.W.fnOf "law" "law" (defArgs s_law) (defBody s_law) (defScope s_law) .none kV9 dc9 pm9 an9 cd9 ct9, [(g0, P0), (g1, P1), (g3, P2)], spLaw K P0 P1 P2, ⟨T1, T2, T3⟩, fun s v => .of_eq rfl, fun H a ns hl hb hT hS => ⟨a, ns, rfl, hS, hl, hT _ (List.mem_cons_self), hT _ (List.mem_cons_of_mem _ List.mem_cons_self), hT _ (List.mem_cons_of_mem _ (List.mem_cons_of_mem _ List.mem_cons_self)), fun H2 e2 => ⟨rfl, fun p hp => e2 _ _ (hT p hp)⟩⟩, fun base kb gb TB => ?_⟩
  have B : Bs mg := ⟨PySem.W.mg_none_of X G z_len, PySem.W.mg_none_of X G z_int, PySem.W.mg_none_of X G z_min, PySem.W.mg_none_of X G z_max, PySem.W.mg_none_of X G z_list, PySem.W.mg_none_of X G z_sorted, PySem.W.mg_none_of X G z_sum, PySem.W.mg_none_of X G z_range, PySem.W.mg_none_of X G z_enumerate, PySem.W.mg_none_of X G z_zip, PySem.W.mg_none_of X G z_any, PySem.W.mg_none_of X G z_isinstance, PySem.W.mg_none_of X G z_bool, PySem.W.mg_none_of X G z_reversed⟩
  have TB0 : GxR.TabB base mg g0 P0 := TB (g0, P0) (by simp)
  have TB1 : GxR.TabB base mg g1 P1 := TB (g1, P1) (by simp)
  have TB3 : GxR.TabB base mg g3 P2 := TB (g3, P2) (by simp)
  have T : GT mg tk := ⟨PySem.W.mg_of X G y_LONGEST⟩
  have F0 : FunT K "room" "room" s_room f0 _ g0 := ⟨⟨oc0, od0, kV0, dc0, pm0, an0, ct0, sl0, rfl, l0, c0⟩, k0⟩
  have C_room := cal_of (P := l.prog) (w := w) (base := base) F0.fn (PySem.W.mg_of X G a0) (F0.fn.binds (ps := ["lengths"]) fun _ _ _ _ _ _ us hl => match us, hl with | [_], _ => rfl) (ok_room (k := 0) F0 TB0 T B)
  have F1 : FunT K "is_code" "is_code" s_is_code f1 _ g1 := ⟨⟨oc1, od1, kV1, dc1, pm1, an1, ct1, sl1, rfl, l1, c1⟩, k1⟩
  have C_is_code := cal_of (P := l.prog) (w := w) (base := base) F1.fn (PySem.W.mg_of X G a1) (F1.fn.binds (ps := ["lengths"]) fun _ _ _ _ _ _ us hl => match us, hl with | [_], _ => rfl) (ok_is_code (k := 0) F1 TB1 B C_room)
  have F2 := fun_mk (st := s_field_bits) l2 c2 k2
  have C_field_bits := cal_of (P := l.prog) (w := w) (base := base) F2 (PySem.W.mg_of X G a2) (F2.binds (ps := ["number", "width"]) fun _ _ _ _ _ _ us hl => match us, hl with | [_, _], _ => rfl) (ok_field_bits (k := 0) F2 B)
  have F3 : FunT K "words" "words" s_words f3 _ g3 := ⟨⟨oc3, od3, kV3, dc3, pm3, an3, ct3, sl3, rfl, l3, c3⟩, k3⟩
  have C_words := cal_of (P := l.prog) (w := w) (base := base) F3.fn (PySem.W.mg_of X G a3) (F3.fn.binds (ps := ["lengths"]) fun _ _ _ _ _ _ us hl => match us, hl with | [_], _ => rfl) (ok_words (k := 0) F3 TB3 B C_field_bits)
  have F4 := fun_mk (st := s_law_cell) l4 c4 k4
  have C_law_cell := cal_of (P := l.prog) (w := w) (base := base) F4 (PySem.W.mg_of X G a4) (F4.binds (ps := ["script", "k"]) fun _ _ _ _ _ _ us hl => match us, hl with | [_, _], _ => rfl) (ok_cell (k := 0) F4 B)
  have F5 := fun_mk (st := s_law_lengths) l5 c5 k5
  have C_law_lengths := cal_of (P := l.prog) (w := w) (base := base) F5 (PySem.W.mg_of X G a5) (F5.binds (ps := ["script", "first", "many"]) fun _ _ _ _ _ _ us hl => match us, hl with | [_, _, _], _ => rfl) (ok_lengths (k := 0) F5 B C_law_cell)
  have F6 := fun_mk (st := s_law_room) l6 c6 k6
  have C_law_room := cal_of (P := l.prog) (w := w) (base := base) F6 (PySem.W.mg_of X G a6) (F6.binds (ps := ["lengths"]) fun _ _ _ _ _ _ us hl => match us, hl with | [_], _ => rfl) (ok_law_room (k := 0) F6 B)
  have F7 := fun_mk (st := s_law_fitting) l7 c7 k7
  have C_law_fitting := cal_of (P := l.prog) (w := w) (base := base) F7 (PySem.W.mg_of X G a7) (F7.binds (ps := ["lengths"]) fun _ _ _ _ _ _ us hl => match us, hl with | [_], _ => rfl) (ok_law_fitting (k := 0) F7 B)
  have F8 := fun_mk (st := s_law_words) l8 c8 k8
  have C_law_words := cal_of (P := l.prog) (w := w) (base := base) F8 (PySem.W.mg_of X G a8) (F8.binds (ps := ["lengths"]) fun _ _ _ _ _ _ us hl => match us, hl with | [_], _ => rfl) (ok_law_words (k := 0) F8 B)
  have F9 := fun_mk (st := s_law) l9 c9 k9
  exact ok_law (k := 0) F9 B C_law_cell C_law_lengths C_room C_is_code C_law_room C_law_fitting C_law_words C_words
end K01
open PySem PySem.W PyProof.Rows
set_option maxHeartbeats 0 in
theorem PySem.Challenge.cw_kraftroom_k01_words_of_a_code_holds : PySem.Challenge.rw_kraftroom_k01_words_of_a_code.Holds := by
  w_on; o_law; k_head; (case hw => w_witness2)
  k_fill
  refine KC.walk_X (l := PySem.Challenge.rw_kraftroom_k01_words_of_a_code) (n := 63) (k := 9) (x := "script") (CX := fun _ => L2.CX0) rfl (by decide) rfl ⟨rfl, by decide, by decide⟩ (fun w h Y => PySem.W.kIn_of Y) ?F (fun _ _ _ _ _ h => h)
  case F =>
    intro w mg fa h Y KX G hmg R
    refine' K01.top_of KX G R hmg ?r0 ?r1 ?r3 ?a0 ?l0 ?c0 ?k0 ?v0 ?p0 ?t0 ?n0 ?a1 ?l1 ?c1 ?k1 ?v1 ?p1 ?t1 ?n1 ?a2 ?l2 ?c2 ?k2 ?a3 ?l3 ?c3 ?k3 ?v3 ?p3 ?t3 ?n3 ?a4 ?l4 ?c4 ?k4 ?a5 ?l5 ?c5 ?k5 ?a6 ?l6 ?c6 ?k6 ?a7 ?l7 ?c7 ?k7 ?a8 ?l8 ?c8 ?k8 ?a9 ?l9 ?c9 ?k9 ?z_len ?z_int ?z_min ?z_max ?z_list ?z_sorted ?z_sum ?z_range ?z_enumerate ?z_zip ?z_any ?z_isinstance ?z_bool ?z_reversed ?y_LONGEST
    (case r0 => rfl)
    (case r1 => rfl)
    (case r3 => rfl)
    (case a0 => k_is); (case l0 => k_is); (case c0 => k_is); (case k0 => k_is); (case v0 => k_is); (case p0 => rfl); (case t0 => rfl); (case n0 => rfl); (case a1 => k_is); (case l1 => k_is); (case c1 => k_is); (case k1 => k_is); (case v1 => k_is); (case p1 => rfl); (case t1 => rfl); (case n1 => rfl); (case a2 => k_is); (case l2 => k_is); (case c2 => k_is); (case k2 => k_is); (case a3 => k_is); (case l3 => k_is); (case c3 => k_is); (case k3 => k_is); (case v3 => k_is); (case p3 => rfl); (case t3 => rfl); (case n3 => rfl); (case a4 => k_is); (case l4 => k_is); (case c4 => k_is); (case k4 => k_is); (case a5 => k_is); (case l5 => k_is); (case c5 => k_is); (case k5 => k_is); (case a6 => k_is); (case l6 => k_is); (case c6 => k_is); (case k6 => k_is); (case a7 => k_is); (case l7 => k_is); (case c7 => k_is); (case k7 => k_is); (case a8 => k_is); (case l8 => k_is); (case c8 => k_is); (case k8 => k_is); (case a9 => k_is); (case l9 => k_is); (case c9 => k_is); (case k9 => k_is); (case z_len => k_is); (case z_int => k_is); (case z_min => k_is); (case z_max => k_is); (case z_list => k_is); (case z_sorted => k_is); (case z_sum => k_is); (case z_range => k_is); (case z_enumerate => k_is); (case z_zip => k_is); (case z_any => k_is); (case z_isinstance => k_is); (case z_bool => k_is); (case z_reversed => k_is); (case y_LONGEST => k_is)
