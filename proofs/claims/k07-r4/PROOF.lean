import PyProof.Rows.All
import Wide.All
import OpenK.AllK
import Wide.FinOn
import HandS.GenList
import HandS.AnyAll
import HandS.EndOwn
import HandS.SortInts
import HandS.Walk
import HandS.ForMost
import HandS.Style
import HandS.Conv
import HandS.Evl
import HandS.Wide
import HandS.Star
import HandS.IsInst
import KE.BitLaws
import HandS.SortKw
import HandS.NamedTupSort
import HandS.DictEq
import KE.DataMinMax
import KE.KDictSum
import HandS.More
import PySem.Challenge.RW_kraftroom_k07_whole_alphabetic_codes
import HandS.DictComp
import HandS.ExcInit
import HandS.ExcIs
import HandS.FStr
import KE.KExcIs
import KE.KExcPX
import KE.KTypeName
import HandS.TryMany
import HandS.ExcField
import HandS.ExcOwn
import HandS.WordsExc
import HandS.WideBits
import HandS.Zip
import HandS.CallLocal
import KE.LtSeq
import PyProof.Rows.ChunkEnd
import HandS.EndTab
set_option Elab.async false
set_option linter.all false
set_option maxRecDepth 100000
set_option maxHeartbeats 4000000
/-! Generator expressions over the layer: any target, tests, element; consumed by sorted, sum, any, all. -/
namespace GX
open PySem PySem.Spec PyProof.Rows L2 GenW

abbrev Pins := List (Addr × Obj)
structure Sleeps (Ss : List Addr) (s s' : Shared) : Prop where
  os : s'.os = s.os
  bare : AllBare s'.gens
  keep : ∀ b o, b ∉ Ss → s.heap.get? b = some o → s'.heap.get? b = some o
structure PinsAt (Ss : List Addr) (pl : Pins) (h : Heap) : Prop where
  ad : pl.map (·.1) = Ss
  at_ : ∀ p ∈ pl, h.get? p.1 = some p.2 ∧ ∀ v, p.2.data ≠ .cell v
structure Cons where
  Ss : List Addr
  Gh : List V → Pins → Prop
  Th : List V → V → Hp → Prop
  Qe : List V → Hp → Prop

abbrev gcx (X : Cx) (sB : Shared) (HB : Hp) (N' : List Str) (cenv : Env) (fp : List Addr) (A : Around) (pn : Pins) : Cx :=
  { X with A := A, N := N', s_0 := sB, H_0 := HB, env := cenv, outer := X.stack, stack := cenv :: X.stack, ex := fp, fn := fun _ => false, calm := true, pn := pn, xe := fun _ _ => False }

/-- the generator expression's own scope, its names N', which of them are captured (cm: their slots outside) -/
structure CapOk (N N' : List Str) (cm : List (Option Nat)) (scope sc : Scope) : Prop where
  kind : scope.kind = .function
  co : scope.isCoroutine = false
  cell : ∀ y ∈ scope.names, y.2 ≠ .cell
  dot : scope.names.lookup (".0" : Str) = some NameKind.local
  free : ∀ y ∈ scope.names, y.2 = .free → sc.names.lookup y.1 = some .cell ∨ sc.names.lookup y.1 = some .free
  len : cm.length = N'.length
  cap : ((cm.zip N').all fun p => match p.1 with | some j => (N[j]? == some p.2) && (scope.names.lookup p.2 == some .free) | none => true) = true
def captS (cm : List (Option Nat)) (σ : L2.St) : L2.St := cm.map fun o => match o with
  | some j => (σ[j]?).join
  | none => none
theorem captS_some {cm : List (Option Nat)} {σ : L2.St} {i : Nat} {v : V} (h : (captS cm σ)[i]? = some (some v)) : ∃ j, cm[i]? = some (some j) ∧ σ[j]? = some (some v) := by
  unfold captS at h
  rw [List.getElem?_map] at h
  cases hc : cm[i]? with
  | none => rw [hc] at h; cases h
  | some o =>
    rw [hc] at h
    cases o with
    | none => cases h
    | some j =>
      refine ⟨j, rfl, ?_⟩
      have h' : (σ[j]?).join = some v := Option.some.inj h
      cases hs : σ[j]? with
      | none => rw [hs] at h'; cases h'
      | some w => rw [hs] at h'; exact congrArg some h'
theorem CapOk.capt {N N' : List Str} {cm : List (Option Nat)} {scope sc : Scope} (ok : CapOk N N' cm scope sc) {i j : Nat} {y : Str} (h1 : cm[i]? = some (some j)) (h2 : N'[i]? = some y) : N[j]? = some y ∧ scope.names.lookup y = some .free := by
  have h := List.all_eq_true.mp ok.cap (some j, y) (List.mem_of_getElem? (i := i) (by rw [List.getElem?_zip_eq_some]; exact ⟨h1, h2⟩))
  simp only [Bool.and_eq_true, beq_iff_eq] at h
  exact h

theorem inv_gens {G : Cx} {pl : Pins} {σ : L2.St} {H : Hp} {s : Shared} (I : Inv G pl σ H s) {g : Nat} {x : GenState} (hx : x.bare = true) : Inv G pl σ H (s.setGen g x) :=
  ⟨I.ok, I.os, allBare_setGen I.bare hx, I.base, I.loc, I.cell, I.free, I.freeC, I.pin, I.hok, I.len⟩

theorem woken {G : Cx} {Ss : List Addr} {pl pl' : Pins} {σ : L2.St} {H : Hp} {s s' : Shared} (hpn : ∀ p ∈ G.pn, p.1 ∉ Ss)
    (hap : ∀ b ∈ Ss, G.s_0.heap.objs.size ≤ b ∧ b ≠ G.env.locals ∧ ∀ x c, G.env.cells.lookup x = some c → c ≠ b) (hp : PinsAt Ss pl s.heap) (I : Inv G pl σ H s) (z : Sleeps Ss s s') (hp' : PinsAt Ss pl' s'.heap) :
    Inv G pl' σ H s' := by
  have fr : ∀ b ∈ Ss, H b = none ∧ b ≠ G.env.locals ∧ b ∉ G.fs := fun b hb => by
    rw [← hp.ad] at hb
    obtain ⟨p, hm, e⟩ := List.mem_map.mp hb
    obtain ⟨_, h2, h3, h4, _⟩ := I.pin p (List.mem_append_right _ hm)
    rw [← e]
    exact ⟨h2, h3, h4⟩
  have I0 : Inv G [] σ H s := I.pins_of fun p hp => absurd hp (by simp)
  have nt : ∀ b u, H b = some u → b ∉ Ss := fun b u q hb => by rw [(fr b hb).1] at q; cases q
  obtain ⟨z1, z2, z3⟩ := z
  obtain ⟨hh, g, d, t, o⟩ := s'
  have ho : o = s.os := z1
  subst ho
  have J : Inv G [] σ H { s with heap := hh, gens := g, drawn := d, toks := t } := by
    refine I0.step (g' := g) (t' := t) (d' := d) (ch := Ss) (fun b hb => ?_)
      (fun b ob _ _ hc q _ => z3 b ob hc q) (fun b ob _ _ hc q _ => ⟨ob.slots, z3 b ob hc q⟩) (fun _ _ _ _ n => n) (fun b ob hc q => ⟨ob, z3 b ob hc q⟩)
      (fun _ _ q => q) (fun _ _ _ q => q) (fun b ps q => ⟨#[], by rw [q]; simp⟩) (fun m hm => ?_) (fun b u q => ?_) z2
    · refine ⟨.inr (hap b hb).1, (hap b hb).2.1, (hap b hb).2.2, fun p hp => ?_⟩
      rcases List.mem_append.mp hp with hp | hp
      · exact fun e => hpn p hp (by rw [e]; exact hb)
      · cases hp
    · obtain ⟨ob, es, ep, ho, r⟩ := hm
      exact ⟨ob, es, ep, z3 _ ob (fun hm => (fr _ hm).2.1 rfl) ho, r⟩
    · refine (I0.hok b u q).stay (fun c v hc y => z3 c v ?_ y) (fun _ y => y) fun _ _ y => y
      rcases hc with y | y
      · rw [y]; exact nt b u q
      · exact nt c _ y
  refine J.pins_of fun p hp => ?_
  have hS : p.1 ∈ Ss := by rw [← hp'.ad]; exact List.mem_map.mpr ⟨p, hp, rfl⟩
  exact ⟨(hp'.at_ p hp).1, (fr _ hS).1, (fr _ hS).2.1, (fr _ hS).2.2, (hp'.at_ p hp).2⟩

def GY (G : Cx) (C : Cons) (σ0 : L2.St) : Protocol := fun n s₀ v s kap =>
  ∃ ys x pl H, n + 1 + ys.length = sizeLine ∧ RelV x v ∧ PinsAt C.Ss pl s.heap ∧ C.Gh ys pl ∧ Inv G pl σ0 H s ∧ C.Th ys x H ∧
    (∀ b ∈ C.Ss, s.heap.get? b = s₀.heap.get? b) ∧ ∀ s' pl', Sleeps C.Ss s s' → PinsAt C.Ss pl' s'.heap → C.Gh (ys ++ [x]) pl' → kap (.send .none) s'
def GP (G : Cx) (C : Cons) (σ0 : L2.St) (s₀ s : Shared) : Prop := ∃ ys pl H, ys.length ≤ sizeLine ∧ PinsAt C.Ss pl s.heap ∧ C.Gh ys pl ∧ Inv G pl σ0 H s ∧ C.Qe ys H ∧ ∀ b ∈ C.Ss, s.heap.get? b = s₀.heap.get? b
def GR (G : Cx) (C : Cons) (σ0 : L2.St) : GenEnd := fun n s₀ r s => r = .ok .next ∧ GP G C σ0 s₀ s
theorem PinsAt.same {Ss : List Addr} {pl : Pins} {h h' : Heap} (a : PinsAt Ss pl h) (b : PinsAt Ss pl h') : ∀ x ∈ Ss, h'.get? x = h.get? x := fun x hx => by
  rw [← a.ad] at hx
  obtain ⟨p, hp, e⟩ := List.mem_map.mp hx
  rw [← e, (a.at_ p hp).1, (b.at_ p hp).1]

theorem over_gl {A : Around} {elt : Expr} {gens : List Comprehension} {scope : Scope} {pos : Pos} {it acc : Value} {env : Env} : A.over (.compLoop (.GeneratorExp elt gens scope pos) 0 it acc env) [] = A.deeper env := by
  first
    | rfl
    | (obtain ⟨hd, d, fr, gs, u⟩ := A; simp [Around.over, Around.deeper, marksOver, frameCount, unitsOf, envsOf, guardsOf, pushEnvs, pushGuards, Code.envs, Code.env?, Code.isFrame, Code.guards, Code.isGuard, Code.weight, Code.frames, Code.isCreation, Code.isCaller, Code.cUnits])

/-- what each turn is to bring -/
def Turns (J : It) (g : TG) (tt : TT) (te : TE) (σ0 : L2.St) (own : List Nat) (Th : List V → V → Hp → Prop) (Qe : List V → Hp → Prop) (W : Nat → Nat → List V → Hp → Prop) : Prop :=
  ∀ i m ys H, W i m ys H → (J.stop i H ∧ Qe ys H) ∨ (J.go i H ∧ ∃ Nx : List V → Hp → Prop, (∀ ys' H', Nx ys' H' → ∃ m', m' < m ∧ W (i + 1) m' ys' H') ∧
    ∀ x H', J.yld i H x H' → g x σ0 H' fun σ2 H2 => wipe σ2 own = σ0 ∧ tt σ2 H2 fun b H3 =>
      if b = true then te σ2 H3 fun y H4 => ys.length < sizeLine ∧ Th ys y H4 ∧ Nx (ys ++ [y]) H4 else Nx ys H3)

section
variable {G : Cx} {A : Around} {C : Cons} {cenv : Env} {tg elt iter : Expr} {ifs : List Expr} {scope : Scope} {pos : Pos} {J : It} {fp : List Addr} {it : Addr} {tn : Nat → Heap → Prop} {g : TG} {tt : TT} {te : TE} {σ0 : L2.St} {own : List Nat}
  {W : Nat → Nat → List V → Hp → Prop}
theorem seg_loop (hA : A.deeper cenv = G.A) (hE : G.env = cenv) (hcalm : G.calm = true) (hxe : G.xe = fun _ _ => False) (hco : cenv.scope.isCoroutine = false)
    (T : Turn G.prog G.w G.K tg J fp it tn) (hg : PG G tg g) (ht : PTs G ifs tt) (he : PE G elt te)
    (hpn : ∀ p ∈ G.pn, p.1 ∉ C.Ss) (hap : ∀ b ∈ C.Ss, G.s_0.heap.objs.size ≤ b ∧ b ≠ G.env.locals ∧ ∀ x c, G.env.cells.lookup x = some c → c ≠ b)
    (hfp : ∀ b ∈ fp, b ≠ G.env.locals ∧ b ∉ G.fs ∧ (b ∈ G.ex ∨ G.s_0.heap.objs.size ≤ b) ∧ (∀ x c, G.env.cells.lookup x = some c → c ≠ b) ∧ (∀ p ∈ G.pn, p.1 ≠ b) ∧ b ∉ C.Ss)
    (tr : Turns J g tt te σ0 own C.Th C.Qe W) :
    ∀ (m i n : Nat) (ys : List V) (s₀ s : Shared) (H : Hp) (pl : Pins), n + ys.length = sizeLine → W i m ys H → PinsAt C.Ss pl s.heap → C.Gh ys pl → Inv G pl σ0 H s → tn i s.heap → (∀ b ∈ fp, H b = none) → (∀ b ∈ C.Ss, s.heap.get? b = s₀.heap.get? b) →
      Seg (model G.prog G.w) A (GR G C σ0) (GY G C σ0) n s₀ (.compLoop (.GeneratorExp elt [⟨tg, iter, ifs, 0⟩] scope pos) 0 (.ref it) .none cenv)
        ((model G.prog G.w).den (.compLoop (.GeneratorExp elt [⟨tg, iter, ifs, 0⟩] scope pos) 0 (.ref it) .none cenv)) [] s := by
  subst hE
  intro m
  induction m using Nat.strongRecOn with
  | ind m ih =>
    intro i n ys s₀ s H pl hn w hp hgh I hst hfr hs0
    have hov : A.over (.compLoop (.GeneratorExp elt [⟨tg, iter, ifs, 0⟩] scope pos) 0 (.ref it) .none G.env) [] = G.A := over_gl.trans hA
    have stat : ∀ {pl' : Pins} {H' : Hp}, (pl'.map (·.1) = C.Ss) → (∀ b ∈ fp, H' b = none) → ∀ b ∈ fp, FpOk G pl' H' b := fun {pl' H'} had hn b hb => by
      obtain ⟨h1, h2, h3, h4, h5, h6⟩ := hfp b hb
      refine ⟨hn b hb, h1, h2, h3, h4, fun p hp => ?_⟩
      rcases List.mem_append.mp hp with hp | hp
      · exact h5 p hp
      · intro e
        exact h6 (by rw [← had, ← e]; exact List.mem_map.mpr ⟨p, hp, rfl⟩)
    show Seg _ A _ _ _ s₀ _ ((compTurn (.GeneratorExp elt [⟨tg, iter, ifs, 0⟩] scope pos) 0 (.ref it) .none G.env).onRaise (leaving G.env)) [] s
    rw [compTurn_gen, Sem.onRaise_eq_wrap]
    refine seg_bind_wrap (wpAny_standAt ?_)
    rcases tr i m ys H w with ⟨stop, qn⟩ | ⟨go, Nx, hN, step⟩
    · refine seg_bind_wrap ?_
      rw [hov]
      refine thn (T.done G rfl rfl rfl hcalm i pl s σ0 H _ I (stat hp.ad hfr) hst stop) fun r s4 ⟨hr, I4⟩ => ?_
      subst hr
      have hp4 : PinsAt C.Ss pl s4.heap := ⟨hp.ad, fun p hm => ⟨(I4.pin p (List.mem_append_right _ hm)).1, (hp.at_ p hm).2⟩⟩
      exact seg_end (.ok .next) ⟨rfl, ys, pl, H, by omega, hp4, hgh, I4, qn, fun b hb => (hp.same hp4 b hb).trans (hs0 b hb)⟩
    · refine seg_bind_wrap ?_
      rw [hov]
      refine thn (T.item G rfl rfl rfl hcalm i pl s σ0 H _ I (stat hp.ad hfr) hst go) fun r s4 ⟨u, hr, h4⟩ => ?_
      subst hr
      refine seg_bind_wrap ?_
      rw [hov]
      refine thn h4 fun _ s5 ⟨x, H5, I5, r5, y5, st5, fr5⟩ => ?_
      have I5' := I5.pinned (stat hp.ad fr5) (T.obj _ _ st5)
      refine seg_bind_wrap ?_
      rw [hov]
      refine wpAny_mono (hg.run _ s5 σ0 H5 x u _ I5' r5 (step x H5 y5)) (fun _ s6 ⟨σ6, H6, I6, hw6, q6⟩ => ?_) fun e s' hx => absurd hx (by rw [hxe]; exact fun z => z)
      refine seg_bind_wrap ?_
      rw [hov]
      refine wpAny_mono (ht.run _ s6 σ6 H6 _ I6 q6) (fun ok s7 ⟨H7, I7, q7⟩ => ?_) fun e s' hx => absurd hx (by rw [hxe]; exact fun z => z)
      have back : ∀ {s8 : Shared} {H8 : Hp}, Inv G (pl ++ pinsAt fp s5.heap) σ6 H8 s8 → Inv G pl σ0 H8 s8 ∧ PinsAt C.Ss pl s8.heap ∧ (∀ b ∈ fp, H8 b = none) ∧ ∀ b ∈ fp, ∀ o, s5.heap.get? b = some o → s8.heap.get? b = some o := fun {s8 H8} I8 => by
        refine ⟨(I8.unpinned).weak (by rw [← hw6, wipe_length]) fun j v hv => ?_, ⟨hp.ad, fun p hm => ?_⟩, fun b hb => ?_, fun b hb o e => ?_⟩
        · rw [← hw6] at hv
          exact (wipe_some hv).1
        · exact ⟨(I8.pin p (List.mem_append_right _ (List.mem_append_left _ hm))).1, (hp.at_ p hm).2⟩
        · obtain ⟨o, e, d⟩ := T.obj _ _ st5 b hb
          exact (I8.pin (b, o) (List.mem_append_right _ (List.mem_append_right _ (mem_pinsAt hb e)))).2.1
        · exact (I8.pin (b, o) (List.mem_append_right _ (List.mem_append_right _ (mem_pinsAt hb e)))).1
      cases ok with
      | false =>
        rw [if_neg Bool.false_ne_true] at q7
        simp only [Bool.false_eq_true, if_false]
        obtain ⟨I8, hp8, hf8, hk8⟩ := back I7
        obtain ⟨m', hm', w'⟩ := hN _ _ q7
        exact seg_again rfl (ih m' hm' (i + 1) n ys s₀ s7 H7 pl hn w' hp8 hgh I8 (T.keep _ _ _ st5 hk8) hf8 fun b hb => (hp.same hp8 b hb).trans (hs0 b hb))
      | true =>
        rw [if_pos rfl] at q7
        simp only [if_true]
        have hy : ∀ v, yieldOut G.env v = yieldValue v := fun v => by simp only [yieldOut, hco, Bool.false_eq_true, if_false]
        simp only [hy]
        rw [Sem.bind_eq_wrap', Sem.bind_eq_wrap', Sem.wrap_wrap, Sem.wrap_wrap]
        refine seg_wrap ?_
        rw [hov]
        refine wpAny_mono (he.run _ s7 σ6 H7 _ I7 q7) (fun v s8 ⟨y, H8, I8', r8, hlt, hth, hnx⟩ => ?_) fun e s' hx => absurd hx (by rw [hxe]; exact fun z => z)
        obtain ⟨n, rfl⟩ : ∃ k, n = k + 1 := ⟨n - 1, by omega⟩
        obtain ⟨I8, hp8, hf8, hk8⟩ := back I8'
        obtain ⟨m', hm', w'⟩ := hN _ _ hnx
        refine seg_at (seg_yield rfl rfl rfl ⟨ys, y, pl, H8, hn, r8, hp8, hgh, I8, hth, fun b hb => (hp.same hp8 b hb).trans (hs0 b hb), fun s'' pl' hsl hpl' hgh' => ?_⟩)
        refine seg_again rfl (ih m' hm' (i + 1) n (ys ++ [y]) s'' s'' H8 pl' (by rw [List.length_append, List.length_singleton]; omega) w' hpl' hgh' (woken hpn hap hp8 I8 hsl hpl')
          (T.keep _ _ _ st5 fun b hb o e => hsl.keep b o (hfp b hb).2.2.2.2.2 (hk8 b hb o e)) hf8 fun _ _ => rfl)

theorem seg_start (hA : A.deeper cenv = G.A) (hE : G.env = cenv) (hcalm : G.calm = true) (hxe : G.xe = fun _ _ => False) (hco : cenv.scope.isCoroutine = false)
    (T : Turn G.prog G.w G.K tg J fp it tn) (hg : PG G tg g) (ht : PTs G ifs tt) (he : PE G elt te)
    (hpn : ∀ p ∈ G.pn, p.1 ∉ C.Ss) (hap : ∀ b ∈ C.Ss, G.s_0.heap.objs.size ≤ b ∧ b ≠ G.env.locals ∧ ∀ x c, G.env.cells.lookup x = some c → c ≠ b)
    (hfp : ∀ b ∈ fp, b ≠ G.env.locals ∧ b ∉ G.fs ∧ (b ∈ G.ex ∨ G.s_0.heap.objs.size ≤ b) ∧ (∀ x c, G.env.cells.lookup x = some c → c ≠ b) ∧ (∀ p ∈ G.pn, p.1 ≠ b) ∧ b ∉ C.Ss)
    (tr : Turns J g tt te σ0 own C.Th C.Qe W) {m : Nat} {s₀ s : Shared} {H : Hp} {pl : Pins} (w : W 0 m [] H) (hp : PinsAt C.Ss pl s.heap) (hgh : C.Gh [] pl) (I : Inv G pl σ0 H s) (hst : tn 0 s.heap) (hfr : ∀ b ∈ fp, H b = none) (hs0 : ∀ b ∈ C.Ss, s.heap.get? b = s₀.heap.get? b) :
    Seg (model G.prog G.w) A (GR G C σ0) (GY G C σ0) sizeLine s₀ (.compStart (.GeneratorExp elt [⟨tg, iter, ifs, 0⟩] scope pos) 0 (.ref it) .none cenv)
      ((model G.prog G.w).den (.compStart (.GeneratorExp elt [⟨tg, iter, ifs, 0⟩] scope pos) 0 (.ref it) .none cenv)) [] s := by
  have loop := seg_loop (iter := iter) (scope := scope) (pos := pos) hA hE hcalm hxe hco T hg ht he hpn hap hfp tr m 0 sizeLine [] s₀ s H pl rfl w hp hgh I hst hfr hs0
  show Seg _ A _ _ _ s₀ _ ((compStart (.GeneratorExp elt [⟨tg, iter, ifs, 0⟩] scope pos) 0 (.ref it) .none cenv).onRaise (leaving cenv)) [] s
  unfold compStart
  rw [Sem.onRaise_eq_wrap]
  show Seg _ A _ _ _ s₀ _ ((ask >>= _).wrap _ _ _ _) [] s
  refine seg_bind_wrap (wpAny_askSetting ?_)
  split
  · exact seg_again rfl loop
  · first
      | exact seg_bind_wrap (wpAny_rule (seg_bind_wrap (wpAny_standAt (seg_bind_wrap (T.self _ 0 s _ _ hst (seg_again rfl loop))))))
      | (refine seg_bind_wrap (wpAny_rule ?_); show Seg _ A _ _ _ s₀ _ ((standAt iter.pos >>= _).wrap _ _ _ _) [] s; exact seg_bind_wrap (wpAny_standAt (seg_bind_wrap (T.self _ 0 s _ _ hst (seg_again rfl loop)))))
end
end GX
set_option Elab.async false
set_option linter.all false
set_option maxRecDepth 100000
set_option maxHeartbeats 4000000
namespace GX
open PySem PySem.Spec PyProof.Rows L2 GenW

section
variable {X : Cx} {pins : Pins} {σ : L2.St} {H : Hp} {sB : Shared} {N' : List Str} {cm : List (Option Nat)} {scope : Scope}
theorem gen_start (I : Inv X pins σ H sB) (ok : CapOk X.N N' cm scope X.env.scope) {code : Value} {fp : List Addr} (hfp : ∀ b ∈ fp, FpOk X pins H b ∧ b < sB.heap.objs.size)
    {A : Around} (hA : A.handled = none) (hfr : A.frames = some (genEnv scope (cloFrom X.env.cells scope.names []) sB.heap.objs.size code builtinsNs X.env :: X.stack))
    {s2 : Shared} {m0 : Str → Option Value} (hn : s2.heap.Ns sB.heap.objs.size m0) (hk : ∀ b o, sB.heap.get? b = some o → s2.heap.get? b = some o) (hos : s2.os = sB.os) (hb : AllBare s2.gens) {pn pl : Pins}
    (hp : ∀ p ∈ pn ++ pl, s2.heap.get? p.1 = some p.2 ∧ sB.heap.objs.size < p.1 ∧ ∀ v, p.2.data ≠ .cell v) :
    Inv (gcx X sB H N' (genEnv scope (cloFrom X.env.cells scope.names []) sB.heap.objs.size code builtinsNs X.env) fp A pn) pl (captS cm σ) H s2 := by
  have hfree : ∀ y ∈ scope.names, y.2 = .free → ∃ c, X.env.cells.lookup y.1 = some c := fun y hy e => by
    rcases ok.free y hy e with k | k
    · exact I.ok.has _ (.inl k)
    · exact I.ok.has _ (.inr k)
  have cm1 : ∀ {y c}, (cloFrom X.env.cells scope.names []).lookup y = some c → X.env.cells.lookup y = some c ∧ c < sB.heap.objs.size := fun {y c} hm => by
    rcases cloFrom_mem (PySem.mem_of_lookup hm) with hm | ⟨h1, rfl⟩
    · cases hm
    · obtain ⟨c, hc⟩ := hfree _ h1 rfl
      rw [hc]
      obtain ⟨w, z⟩ := I.cell _ _ hc
      exact ⟨rfl, z.lt⟩
  have look : ∀ {y}, scope.names.lookup y = some .free → ∃ c, (cloFrom X.env.cells scope.names []).lookup y = some c ∧ X.env.cells.lookup y = some c := fun {y} hl => by
    have hy : (y, NameKind.free) ∈ scope.names := PySem.mem_of_lookup hl
    obtain ⟨c', e'⟩ := mem_lookup (cloFrom_has (cells := X.env.cells) (acc := []) hy)
    exact ⟨c', e', (cm1 e').1⟩
  have nstk : ∀ b, sB.heap.objs.size ≤ b → b ∉ frs X.stack := fun b hb z => by
    rcases List.mem_cons.mp (I.stkSub b z) with z | z
    · exact absurd (Nat.lt_of_lt_of_le I.lt (by rw [← z]; exact hb)) (Nat.lt_irrefl _)
    · exact I.nofs hb z
  have okB : (gcx X sB H N' (genEnv scope (cloFrom X.env.cells scope.names []) sB.heap.objs.size code builtinsNs X.env) fp A pn).Ok := by
    refine ⟨I.ok.mod, ok.kind, I.ok.glob, rfl, Nat.le_refl _, fun y z c e1 e2 => I.ok.inj y z c (cm1 e1).1 (cm1 e2).1, fun y hy => ?_, fun y c z e => ?_, fun _ => hA, hfr, .inr ⟨rfl, rfl⟩, fun b hb => ⟨?_, fun y c e z => ?_⟩, I.bs, Nat.le_trans I.ok.bsz I.sz, fun b o e hb => ?_, fun b hb z => ?_, I.stack, I.stkFree⟩
    · rcases hy with hy | hy
      · exact absurd rfl (ok.cell _ (PySem.mem_of_lookup hy))
      · obtain ⟨c, h1, _⟩ := look hy
        exact ⟨c, h1⟩
    · exact absurd (show false = true from z) Bool.false_ne_true
    · exact Nat.ne_of_lt (hfp b hb).2
    · exact (hfp b hb).1.2.2.2.2.1 y c (cm1 e).1 z
    · rcases (hfp b hb).1.2.2.2.1 with z | z
      · exact I.ok.noex b o e z
      · exact absurd (Nat.lt_of_lt_of_le (Heap.lt_size e) (Nat.le_trans I.ok.bsz z)) (Nat.lt_irrefl _)
    · rcases List.mem_cons.mp (I.stkSub b z) with z | z
      · exact (hfp b hb).1.2.1 z
      · exact (hfp b hb).1.2.2.1 z
  refine ⟨okB, hos, hb, Un.kept hk, ⟨m0, hn, fun i y av e1 e2 e3 => ?_⟩, fun y c e => ?_, I.hok.fresh (Nat.le_refl _), fun y c e => I.freeC y c (cm1 e).1, fun p hm => ?_, I.hok.kept hk, by
    show (captS cm σ).length = N'.length
    unfold captS
    rw [List.length_map, ok.len]⟩
  · obtain ⟨j, hj, hs⟩ := captS_some e2
    obtain ⟨hy, hf⟩ := ok.capt hj e1
    obtain ⟨m, hn2, hl⟩ := I.loc
    have hvis : Vis X.env.scope y := (ok.free _ (PySem.mem_of_lookup hf) rfl).elim (fun k => .inr (.inl k)) (fun k => .inr (.inr k))
    obtain ⟨w, r, q⟩ := hl j y av hy hs hvis
    refine ⟨w, r, .inr ⟨.inr hf, ?_⟩⟩
    obtain ⟨c, h1, h2⟩ := look hf
    rcases q with ⟨k, _⟩ | ⟨_, c', e', z⟩
    · have k : X.env.scope.names.lookup y = some .local := k
      rcases ok.free _ (PySem.mem_of_lookup hf) rfl with k' | k' <;> rw [show X.env.scope.names.lookup y = _ from k'] at k <;> cases k
    · rw [h2] at e'; cases e'
      exact ⟨c, h1, z.keeps hk⟩
  · obtain ⟨w, z⟩ := I.cell y c (cm1 e).1
    exact ⟨w, z.keeps hk⟩
  · obtain ⟨h1, h2, h3⟩ := hp p hm
    exact ⟨h1, I.hok.fresh (Nat.le_of_lt h2), Nat.ne_of_gt h2, nstk _ (Nat.le_of_lt h2), h3⟩
end

/-- a code object's table, whatever it holds -/
def TabX (P : Addr) : HO := .ext fun h => ∃ ps : Array Value, h.get? P = some { cls := .none, data := .fields ps } ∧ TriplesOk ps.toList
theorem tabx_ok {prog : Program} {w : World} {H : Hp} {h : Heap} {P : Addr} {ps : Array Value} (e : h.get? P = some { cls := .none, data := .fields ps }) (t : TriplesOk ps.toList) : ObjOk prog w H h P (TabX P) :=
  ⟨⟨ps, e, t⟩, ⟨_, e⟩, fun h1 h2 ⟨qs, e1, t1⟩ k => ⟨qs, k _ e1, t1⟩⟩
theorem upd_id {H : Hp} {a : Addr} {o : HO} (h : H a = some o) : upd H a o = H := by
  funext b
  by_cases e : b = a
  · rw [e, upd_same, h]
  · rw [upd_ne e]
/-- a generator that has not begun -/
def RdG (X : Cx) (pins : Pins) (σ : L2.St) (k : Nat) (Th : List V → V → Hp → Prop) (Qe : List V → Hp → Prop) (u : Value) (s' : Shared) : Prop :=
  ∃ (a : Addr) (g : Nat) (c : Code) (go : Obj) (sB : Shared) (HB : Hp) (N' : List Str) (cenv : Env) (fp : List Addr) (σ0 : L2.St),
    u = .ref a ∧ Inv X pins σ HB sB ∧ ExOk X pins fp ∧ sB.heap.objs.size < a ∧ a < s'.heap.objs.size ∧ (∀ h : Heap, h.get? a = some go → h.IsGen a g) ∧ s'.heap.get? a = some go ∧ s'.gens[g]? = some (.fresh c) ∧ s'.os = sB.os ∧ AllBare s'.gens ∧ (∀ b o, sB.heap.get? b = some o → s'.heap.get? b = some o) ∧
    ∀ (A : Around) (s2 : Shared) (Ss : List Addr) (Gh : List V → Pins → Prop) (pl : Pins), Room (k + 1) A → A.frames = some X.stack → (∀ b ∈ Ss, s'.heap.objs.size ≤ b) → (∀ b o, s'.heap.get? b = some o → s2.heap.get? b = some o) → s2.os = sB.os → AllBare s2.gens → PinsAt Ss pl s2.heap → Gh [] pl →
      Seg (model X.prog X.w) A (GR (gcx X sB HB N' cenv fp (A.deeper cenv) [(a, go)]) ⟨Ss, Gh, Th, Qe⟩ σ0) (GY (gcx X sB HB N' cenv fp (A.deeper cenv) [(a, go)]) ⟨Ss, Gh, Th, Qe⟩ σ0) sizeLine s2 c ((model X.prog X.w).den c) [] s2
abbrev TGx := L2.St → Hp → (List V → V → Hp → Prop) → (List V → Hp → Prop) → Prop
structure PGx (X : Cx) (k : Nat) (e : Expr) (t : TGx) : Prop where
  run : ∀ (pins : Pins) (s : Shared) (σ : L2.St) (H : Hp) (Th : List V → V → Hp → Prop) (Qe : List V → Hp → Prop), Inv X pins σ H s → t σ H Th Qe → wpAny (model X.prog X.w) X.A (eval e X.env) (RdG X pins σ k Th Qe) X.xe s
/-- the reading of a generator expression -/
def tGx (P : Addr) (wi : TI) (g : TG) (tt : TT) (te : TE) (cm : List (Option Nat)) (own : List Nat) : TGx := fun σ H Th Qe => wi σ H fun J H1 => H1 P = some (TabX P) ∧
  ∃ W : Nat → Nat → List V → Hp → Prop, (∃ m, W 0 m [] H1) ∧ Turns J g tt te (captS cm σ) own Th Qe W

theorem pgx_gen {X : Cx} {c P : Addr} {elt iter tg : Expr} {ifs : List Expr} {scope : Scope} {gpos : Pos} {N' : List Str} {cm : List (Option Nat)} {own : List Nat} {wi : TI} {g : TG} {tt : TT} {te : TE} {k k0 : Nat}
    (hr : Room k0 X.A) (TB : GxR.TabB X.base X.mg c P) (hcode : X.env.code = .ref c) (ok : CapOk X.N N' cm scope X.env.scope) (hi : PI X tg iter wi)
    (hg : ∀ (sB : Shared) (HB : Hp) (cl : List (Str × Addr)) (L : Addr) (code : Value) (fp : List Addr) (A : Around) (pn : Pins), Room k A → PG (gcx X sB HB N' (genEnv scope cl L code builtinsNs X.env) fp A pn) tg g)
    (ht : ∀ (sB : Shared) (HB : Hp) (cl : List (Str × Addr)) (L : Addr) (code : Value) (fp : List Addr) (A : Around) (pn : Pins), Room k A → PTs (gcx X sB HB N' (genEnv scope cl L code builtinsNs X.env) fp A pn) ifs tt)
    (he : ∀ (sB : Shared) (HB : Hp) (cl : List (Str × Addr)) (L : Addr) (code : Value) (fp : List Addr) (A : Around) (pn : Pins), Room k A → PE (gcx X sB HB N' (genEnv scope cl L code builtinsNs X.env) fp A pn) elt te)
    (hs : ∀ v, genFold iter X.env v = pure v := by intro _; rfl) : PGx X k (.GeneratorExp elt [⟨tg, iter, ifs, 0⟩] scope gpos) (tGx P wi g tt te cm own) := by
  refine ⟨fun pins s σ H Th Qe I h => ?_⟩
  have hfree : ∀ y ∈ scope.names, y.2 = .free → ∃ c, X.env.cells.lookup y.1 = some c := fun y hy e => by
    rcases ok.free y hy e with k | k
    · exact I.ok.has _ (.inl k)
    · exact I.ok.has _ (.inr k)
  refine wpAny_GeneratorExp_make ok.co (closure_ok hfree) ok.cell ok.dot ok.kind (by have := hr.dp; omega) ?_ hs
  refine thn (hi.run pins s σ H _ I h) fun xv s1 h1 => thn h1 fun itv s2 h2 => ?_
  obtain ⟨it, fp, tn, J, H2, rfl, I2, T, st2, f2, hP, W, ⟨m0, w0⟩, tr⟩ := h2
  obtain ⟨⟨ps, hPs, ht3⟩, _, _⟩ := I2.hok P _ hP
  have cd : PySem.W.CodeHd s2.heap c P := TB.code.keeps fun b u e => I2.bk b u e
  have fpP : ∀ b ∈ fp, b ≠ P := fun b hb z => by
    have q := (f2 b hb).1
    rw [z, hP] at q; cases q
  have fplt : ∀ b ∈ fp, b < s2.heap.objs.size := fun b hb => let ⟨o, e, _⟩ := T.obj _ _ st2 b hb; Heap.lt_size e
  have cont : ∀ (code : Value) (h3 : Heap) (tk : Nat) (ps' : Array Value), Heap.ExtBut P s2.heap h3 → s2.heap.objs.size ≤ h3.objs.size → h3.get? P = some { cls := .none, data := .fields ps' } → (∃ more, ps' = ps ++ more) → TriplesOk ps'.toList →
      wpAny (model X.prog X.w) X.A (builtinsFor X.env.globals X.env.builtins) (fun bi s₄ =>
        ∀ h', h'.Ns s₄.heap.objs.size (fun y => if y = ".0" then some (.ref it) else none) → Heap.SameBut s₄.heap.objs.size (s₄.heap.push { cls := .type "frame", data := .dict #[] }) h' →
          RdG X pins σ k Th Qe (.ref h'.objs.size) { s₄ with
            gens := s₄.gens.push (.fresh (.compStart (.GeneratorExp elt [⟨tg, iter, ifs, 0⟩] scope gpos) 0 (.ref it) .none (genEnv scope (cloFrom X.env.cells scope.names []) s₄.heap.objs.size code bi X.env))),
            toks := s₄.toks + 1 + 1 + 1,
            heap := h'.push { cls := .type "generator", data := .fields #[.int s₄.gens.size 0, .str "<genexpr>" (s₄.toks + 1), .str (X.env.qual ++ "<genexpr>") (s₄.toks + 1 + 1)] } }) X.xe { s2 with heap := h3, toks := tk } := by
    intro code h3 tk ps' hx hsz hP3 hmore ht4
    obtain ⟨bm, ob, e1, e2, e3, e4, e5, e6, e7, e8⟩ := TB.bm
    refine wpAny_builtinsFor (m := X.mg) (by rw [I2.ok.glob]; exact (I2.mod.glob.keeps I2.bk).extBut hx TB.gP) e1 e2 (hx _ _ e4 (I2.bk _ _ e5)) e6 e7 e8 ?_
    intro h' hn' hs'
    obtain ⟨more, em⟩ := hmore
    subst em
    have J3 : Inv X pins σ H2 { s2 with heap := h3, toks := tk } := by
      have q := I2.write (x := P) (e := P) (o := TabX P) (h' := h3) (t' := tk) (by rw [hP]; trivial) (.inl rfl) (fun b u hb hu => hx b u hb hu) ⟨_, hP3⟩ (tabx_ok hP3 ht4)
      rw [upd_id hP] at q
      exact q
    generalize hgo : ({ cls := .type "generator", data := .fields #[.int s2.gens.size 0, .str "<genexpr>" (tk + 1), .str (X.env.qual ++ "<genexpr>") (tk + 1 + 1)] } : Obj) = go
    have hsz' : h'.objs.size = h3.objs.size + 1 := by
      have q := hs'.1
      rw [q, Heap.size_push]
    have keep' : ∀ b o, h3.get? b = some o → h'.get? b = some o := fun b o e => hs'.extBut b o (Nat.ne_of_lt (Heap.lt_size e)) (Heap.get?_push_of_some _ e)
    have goat : (h'.push go).get? h'.objs.size = some go := by
      subst hgo
      exact Heap.get?_push_size _ rfl
    have fp3 := f2
    refine ⟨h'.objs.size, s2.gens.size, _, go, { s2 with heap := h3, toks := tk }, H2, N', genEnv scope (cloFrom X.env.cells scope.names []) h3.objs.size code builtinsNs X.env, fp, captS cm σ, rfl, J3, fun b hb => ⟨(f2 b hb).2.2.2.1, (f2 b hb).2.1, (f2 b hb).2.2.2.2.1, (f2 b hb).2.2.2.2.2⟩, ?_, ?_, fun h e => ?_, goat, Array.getElem?_push_size .., rfl, ?_, fun b o e => ?_, fun A s2' Ss Gh pl hrA hfr hSs hk2 hos2 hb2 hpl hgh => ?_⟩
    · show h3.objs.size < h'.objs.size
      omega
    · show h'.objs.size < (h'.push _).objs.size
      rw [Heap.size_push]; exact Nat.lt_succ_self _
    · subst hgo
      exact ⟨_, _, _, e, rfl, rfl, rfl⟩
    · exact AllBare.push I2.bare rfl
    · exact Heap.get?_push_of_some _ (keep' b o e)
    · have keep2 : ∀ b o, h3.get? b = some o → s2'.heap.get? b = some o := fun b o e => hk2 b o (Heap.get?_push_of_some _ (keep' b o e))
      have hpins : ∀ p ∈ [(h'.objs.size, go)] ++ pl, s2'.heap.get? p.1 = some p.2 ∧ h3.objs.size < p.1 ∧ ∀ v, p.2.data ≠ .cell v := fun p hp => by
        rcases List.mem_append.mp hp with hp | hp
        · rw [List.mem_singleton.mp hp]
          refine ⟨hk2 h'.objs.size go ?_, by show h3.objs.size < h'.objs.size; omega, fun v q => by subst hgo; cases q⟩
          exact goat
        · have hS : p.1 ∈ Ss := by rw [← hpl.ad]; exact List.mem_map.mpr ⟨p, hp, rfl⟩
          have q := hSs _ hS
          have q2 : (h'.push go).objs.size ≤ p.1 := by subst hgo; exact q
          rw [Heap.size_push] at q2
          refine ⟨(hpl.at_ p hp).1, ?_, (hpl.at_ p hp).2⟩
          have q3 : h'.objs.size < p.1 := Nat.lt_of_succ_le q2
          rw [hsz'] at q3
          exact Nat.lt_of_succ_lt q3
      have IG := gen_start (code := code) (cm := cm) (N' := N') (fp := fp) J3 ok (fun b hb => ⟨fp3 b hb, Nat.lt_of_lt_of_le (fplt b hb) hsz⟩) (A := A.deeper (genEnv scope (cloFrom X.env.cells scope.names []) h3.objs.size code builtinsNs X.env)) hrA.hd
        (by show A.frames.map _ = _; rw [hfr]; rfl) (s2 := s2') (m0 := fun y => if y = ".0" then some (.ref it) else none) ((hn'.push _).keeps hk2) keep2 hos2 hb2 hpins
      have hSlt : ∀ b ∈ Ss, h'.objs.size < b := fun b hb => by
        have q := hSs b hb
        have q2 : (h'.push go).objs.size ≤ b := by subst hgo; exact q
        rw [Heap.size_push] at q2
        exact Nat.lt_of_succ_le q2
      have hrD := hrA.deeper (genEnv scope (cloFrom X.env.cells scope.names []) h3.objs.size code builtinsNs X.env)
      have cmL : ∀ {y c}, (cloFrom X.env.cells scope.names []).lookup y = some c → X.env.cells.lookup y = some c := fun {y c} hm => by
        rcases cloFrom_mem (PySem.mem_of_lookup hm) with hm | ⟨h1, rfl⟩
        · cases hm
        · obtain ⟨c, hc⟩ := hfree _ h1 rfl
          rw [hc] <;> rfl
      refine seg_start (G := gcx X { s2 with heap := h3, toks := tk } H2 N' (genEnv scope (cloFrom X.env.cells scope.names []) h3.objs.size code builtinsNs X.env) fp (A.deeper (genEnv scope (cloFrom X.env.cells scope.names []) h3.objs.size code builtinsNs X.env)) [(h'.objs.size, go)]) (C := ⟨Ss, Gh, Th, Qe⟩) (own := own) (W := W) rfl rfl rfl rfl ok.co T (hg _ _ _ _ _ _ _ _ hrD) (ht _ _ _ _ _ _ _ _ hrD) (he _ _ _ _ _ _ _ _ hrD) (fun p hp z => ?_) (fun b hb => ⟨?_, ?_, fun x c e z => ?_⟩) (fun b hb => ⟨?_, ?_, .inl hb, fun x c e => ?_, fun p hp => ?_, fun z => ?_⟩) tr w0 hpl hgh IG (T.keep _ _ _ st2 fun b hb o e => ?_) (fun b hb => (fp3 b hb).1) (fun _ _ => rfl)
      · rw [List.mem_singleton.mp hp] at z
        exact Nat.lt_irrefl _ (hSlt _ z)
      · exact Nat.le_of_lt (Nat.lt_of_le_of_lt (by omega : h3.objs.size ≤ h'.objs.size) (hSlt b hb))
      · exact Nat.ne_of_gt (Nat.lt_of_le_of_lt (by omega : h3.objs.size ≤ h'.objs.size) (hSlt b hb))
      · obtain ⟨w, q⟩ := I2.cell x c (cmL e)
        have q1 := q.lt
        rw [z] at q1
        exact Nat.lt_irrefl _ (Nat.lt_trans (Nat.lt_of_lt_of_le q1 hsz) (Nat.lt_of_le_of_lt (by omega : h3.objs.size ≤ h'.objs.size) (hSlt b hb)))
      · exact Nat.ne_of_lt (Nat.lt_of_lt_of_le (fplt b hb) hsz)
      · intro z
        rcases List.mem_cons.mp (J3.stkSub b z) with z | z
        · exact (fp3 b hb).2.1 z
        · exact (fp3 b hb).2.2.1 z
      · exact (f2 b hb).2.2.2.2.1 x c (cmL e)
      · rw [List.mem_singleton.mp hp]
        exact Nat.ne_of_gt (Nat.lt_of_lt_of_le (fplt b hb) (by omega : s2.heap.objs.size ≤ h'.objs.size))
      · exact Nat.lt_irrefl _ (Nat.lt_trans (Nat.lt_of_lt_of_le (fplt b hb) (by omega : s2.heap.objs.size ≤ h'.objs.size)) (hSlt b z))
      · exact keep2 b o (hx b o (fpP b hb) e)
  refine ⟨I2.nolimit, ?_⟩
  cases hf : codeAmong gpos ps.toList with
  | none =>
    refine wpAny_genexprCodeX hcode (cd.code hPs ht3) (cd.tab hPs) hf fun c' h' tk hx hge hlt hco' _ htab' _ => ?_
    obtain ⟨o1, vs, f1, tf, fl, tg, inF, tx, tt, op, _, _, _, _, _, _, _, _, _, htr, _⟩ := hco'
    exact cont _ h' tk _ hx (Nat.le_trans hge (Nat.le_of_lt hlt)) htab'.2 ⟨_, rfl⟩ htr
  | some cv =>
    refine wpAny_genexprCode_hit hcode (cd.code hPs ht3) hf ?_
    exact cont cv s2.heap s2.toks ps (Heap.ExtBut.refl _ _) (Nat.le_refl _) hPs ⟨#[], by simp⟩ ht3
end GX
set_option Elab.async false
set_option linter.all false
set_option maxRecDepth 100000
set_option maxHeartbeats 4000000
namespace GX
open PySem PySem.Spec PyProof.Rows L2 GenW

/-- the generator g sleeps (or has not begun), n items at most are to come -/
def Susp (G : Cx) (C : Cons) (σ0 : L2.St) (A : Around) (g n : Nat) (s : Shared) : Prop :=
  ∃ gs, s.gens[g]? = some gs ∧ gs.Goes (model G.prog G.w) A.in1 (GR G C σ0) (GY G C σ0) n (.send .none) (s.setGen g .running)

section
variable {G : Cx} {C : Cons} {σ0 : L2.St} {A : Around} {a : Addr} {g n : Nat} {go : Obj} {s : Shared} {E : Value → Shared → Prop} {Q : Option Value → Shared → Prop}
theorem gx_next (hh : A.handled = none) (hd : A.depth < recursionLimit) (hl : s.heap.NoLimit) (hg : s.heap.IsGen a g) (hS : Susp G C σ0 A g n s)
    (hY : ∀ ys x v pl H s1, n - 1 + 1 + ys.length = sizeLine → RelV x v → PinsAt C.Ss pl s1.heap → C.Gh ys pl → Inv G pl σ0 H s1 → C.Th ys x H → (∀ b ∈ C.Ss, s1.heap.get? b = s.heap.get? b) →
      (∀ s' pl', Sleeps C.Ss s1 s' → s'.gens = s1.gens → PinsAt C.Ss pl' s'.heap → C.Gh (ys ++ [x]) pl' → ∃ m, n = m + 1 ∧ Susp G C σ0 A g m s') → Q (some v) s1)
    (hP : ∀ s1, GP G C σ0 s s1 → Q none s1) : wpAny (model G.prog G.w) A (pyNext (.ref a)) Q E s := by
  obtain ⟨gs, hgs, hgo⟩ := hS
  have hgl : g < s.gens.size := (Array.getElem?_eq_some_iff.mp hgs).1
  refine wpAny_gsz (n := g + 1) hgl ?_
  refine wpAny_pyNext_genexpQ (P := fun n s₀ s₁ => GP G C σ0 s₀ s₁) hh hl hd hg hgs hgo (fun v s₁ gs' hbare hv hsz => ?_) (fun s₁ hp h' hk hsz => ?_)
  · obtain ⟨ys, x, pl, H, h1, h2, h3, h4, h5, h6, h8, h7⟩ := hv
    have hsz1 : g < s₁.gens.size := by
      have q : (s₁.setGen g gs').gens.size = s₁.gens.size := setGen_size _ _ _
      have hsz' : g + 1 ≤ (s₁.setGen g gs').gens.size := hsz
      omega
    refine hY ys x v pl H _ h1 h2 h3 h4 (inv_gens h5 hbare) h6 h8 fun s' pl' hsl hge hpl' hgh' => ?_
    have hsl2 : Sleeps C.Ss s₁ (s'.setGen g .running) := ⟨hsl.os, allBare_setGen hsl.bare rfl, hsl.keep⟩
    have q := h7 (s'.setGen g .running) pl' hsl2 hpl' hgh'
    cases n with
    | zero => exact False.elim q
    | succ m =>
      refine ⟨m, rfl, gs', ?_, q⟩
      rw [hge]
      exact setGen_at hsz1
  · obtain ⟨ys, pl, H, h1, h2, h3, h4, h5, h6⟩ := hp
    have hp2 : PinsAt C.Ss pl h' := ⟨h2.ad, fun p hp => ⟨hk _ _ (h2.at_ p hp).1, (h2.at_ p hp).2⟩⟩
    have I1 := inv_gens (g := g) (x := .finished) h4 rfl
    exact hP _ ⟨ys, pl, H, h1, hp2, h3, I1.kept (t' := s₁.toks) hk, h5, fun b hb => (h2.same hp2 b hb).trans (h6 b hb)⟩
end

/-- a generator just made, now drained: at its first resumption -/
theorem susp_of {X : Cx} {A : Around} {C : Cons} {sB : Shared} {HB : Hp} {N' : List Str} {cenv : Env} {fp : List Addr} {σ0 : L2.St} {a g : Nat} {go : Obj} {c : Code} {s2 : Shared} (hgs : s2.gens[g]? = some (.fresh c))
    (h : Seg (model X.prog X.w) A.in1 (GR (gcx X sB HB N' cenv fp (A.in1.deeper cenv) [(a, go)]) C σ0) (GY (gcx X sB HB N' cenv fp (A.in1.deeper cenv) [(a, go)]) C σ0) sizeLine (s2.setGen g .running) c ((model X.prog X.w).den c) [] (s2.setGen g .running)) :
    Susp (gcx X sB HB N' cenv fp (A.in1.deeper cenv) [(a, go)]) C σ0 A g sizeLine s2 := ⟨_, hgs, rfl, h⟩

section
variable {X : Cx} {pins : Pins} {σ : L2.St} {HB H : Hp} {sB s' : Shared} {N' : List Str} {cenv : Env} {fp : List Addr} {σ0 : L2.St} {A : Around} {pn pl : Pins}
/-- back outside -/
theorem inv_back (I : Inv X pins σ HB sB) (hex : ExOk X pins fp) (J : Inv (gcx X sB HB N' cenv fp A pn) pl σ0 H s') : Inv X pins σ H s' :=
  I.call' (ch := fp) J.os J.base J.hok J.bare hex
end

/-! ### list.extend's loop -/
def GhL (S : Addr) : List V → Pins → Prop := fun ys pl => ∃ (acc : Array Value) (c : Nat), pl = [(S, lstObj acc c)] ∧ Vals ys acc.toList
theorem ghl_at {S : Addr} {ys : List V} {pl : Pins} {h : Heap} (g : GhL S ys pl) (p : PinsAt [S] pl h) : ∃ (acc : Array Value) (c : Nat), h.get? S = some (lstObj acc c) ∧ Vals ys acc.toList := by
  obtain ⟨acc, c, rfl, r⟩ := g
  exact ⟨acc, c, (p.at_ _ (List.mem_singleton.mpr rfl)).1, r⟩
theorem drainL {G : Cx} {Th : List V → V → Hp → Prop} {Qe : List V → Hp → Prop} {σ0 : L2.St} {A : Around} {a S : Addr} {g : Nat} {go : Obj} {res : Value} {R : Result → Shared → Prop} (hh : A.handled = none) (hd : A.depth < recursionLimit) (hpa : (a, go) ∈ G.pn) (hgo : ∀ h : Heap, h.get? a = some go → h.IsGen a g)
    (hSa : S ≠ a) (hSc : S ≠ cStatics)
    (hend : ∀ s' ys acc c pl H, ys.length ≤ sizeLine → s'.heap.get? S = some (lstObj acc c) → Vals ys acc.toList → Inv G pl σ0 H s' → H S = none → Qe ys H → R (.ok (.ret res)) s') :
    ∀ (n : Nat) (s : Shared), s.heap.NoLimit → s.heap.IsGen a g → Susp G ⟨[S], GhL S, Th, Qe⟩ σ0 A.in1 g n s → codeAny (model G.prog G.w) A (.builtin "list.extend.loop" ⟨[.ref S, .ref a, res], []⟩) R s := by
  intro n
  induction n using Nat.strongRecOn with
  | ind n ih =>
    intro s hl hg hS
    refine codeAny_builtin F.entry_extend_loop ?_
    rw [Around.under_plainId F.plain_extend_loop _]
    show wpAny _ A.in1 (pyNext (.ref a) >>= _) _ _ s
    refine wpAny_bind (gx_next (A := A.in1) hh hd hl hg hS (fun ys x v pl H s1 h1 h2 h3 h4 h5 h6 _ h7 => ?_) fun s1 hp => ?_)
    · obtain ⟨acc, c, hS1, hv⟩ := ghl_at h4 h3
      have hlen : acc.toList.length = ys.length := hv.length.symm
      have hacc : acc.size < sizeLine := by
        have e : acc.toList.length = acc.size := by simp
        omega
      show wpAny _ A.in1 (updateSeq S (·.push v) >>= _) _ _ _
      refine wpAny_bind ?_
      refine wpAny_updateSeq hS1 rfl (wpAny_pure ⟨plainId_quiet F.plain_extend_loop _, ?_⟩) (Nat.le_of_lt hacc) (by show (acc.push v).size ≤ sizeLine + 1; rw [Array.size_push]; omega)
      have keep3 : ∀ b o, b ≠ S → s1.heap.get? b = some o → (s1.heap.update S (Obj.mapSeq (·.push v))).get? b = some o := fun b o hbS e => (Heap.get?_update_other _ _ (Ne.symm hbS)).trans e
      have hSn : ∃ c', (s1.heap.update S (Obj.mapSeq (·.push v))).get? S = some (lstObj (acc.push v) c') := ⟨_, Heap.get?_update_self _ hS1 rfl⟩
      obtain ⟨c', hSn⟩ := hSn
      obtain ⟨m, hm, hS2⟩ := h7 { s1 with heap := s1.heap.update S (Obj.mapSeq (·.push v)) } [(S, lstObj (acc.push v) c')] ⟨rfl, h5.bare, fun b o hb e => keep3 b o (fun z => hb (by rw [z]; exact List.mem_singleton.mpr rfl)) e⟩ rfl
        ⟨rfl, fun p hp => by rw [List.mem_singleton.mp hp]; exact ⟨hSn, fun v q => by cases q⟩⟩ ⟨_, _, rfl, by rw [Array.toList_push]; exact hv.append (.cons h2 .nil)⟩
      refine ih m (by omega) _ ?_ ?_ hS2
      · obtain ⟨mc, hns, hnn⟩ := h5.nolimit
        exact ⟨mc, hns.at' fun o e => keep3 _ o (Ne.symm hSc) e, hnn⟩
      · exact hgo _ (keep3 a go (Ne.symm hSa) (h5.pin (a, go) (List.mem_append_left _ hpa)).1)
    · obtain ⟨ys, pl, H, q1, q2, q3, q4, q5, _⟩ := hp
      obtain ⟨acc, c, hS1, hv⟩ := ghl_at q3 q2
      have hn : H S = none := by
        obtain ⟨acc', c', e, _⟩ := q3
        exact (q4.pin (S, lstObj acc' c') (List.mem_append_right _ (by rw [e]; exact List.mem_singleton.mpr rfl))).2.1
      exact wpAny_pure (hend _ ys acc c pl H q1 hS1 hv q4 hn q5)

/-- collect(g): the items in a list at S, untracked -/
theorem collect_gx {X : Cx} {pins : Pins} {σ : L2.St} {k : Nat} {Th : List V → V → Hp → Prop} {Qe : List V → Hp → Prop} {u : Value} {s : Shared} {A : Around} {Q : List Value → Shared → Prop} {E : Value → Shared → Prop} (hr : Room (k + 4) A) (hfr : A.frames = some X.stack)
    (hTh : ∀ ys x H, Th ys x H) (h : RdG X pins σ k Th Qe u s) (hQ : ∀ s' its ys H, ys.length ≤ sizeLine → Vals ys its → Inv X pins σ H s' → Qe ys H → Q its s') : wpAny (model X.prog X.w) A (collect u) Q E s := by
  obtain ⟨a, g, c, go, sB, HB, N', cenv, fp, σ0, rfl, I, hex, ha1, ha2, hgo, hat, hgs, hos, hb, hkp, run⟩ := h
  have hsB : sB.heap.NoLimit := I.nolimit
  have hcl : cStatics < sB.heap.objs.size := let ⟨_, hn, _⟩ := hsB; hn.lt
  have hlim : s.heap.NoLimit := hsB.keeps hkp
  have hSa : s.heap.objs.size ≠ a := Nat.ne_of_gt ha2
  have hSc : s.heap.objs.size ≠ cStatics := Nat.ne_of_gt (Nat.lt_trans hcl (Nat.lt_trans ha1 ha2))
  unfold collect
  refine wpAny_bind (wpAny_runValue (codeAny_builtin F.entry_proto_collect ?_))
  rw [Around.under_plainId F.plain_proto_collect _]
  show wpAny _ A.in1 (newList [] >>= fun l => again (.builtin "list.__iadd__" ⟨[l, .ref a], []⟩)) _ _ s
  refine wpAny_bind (wpAny_newObj_type ?_)
  refine wpAny_pure ⟨plainId_quiet F.plain_list_iadd _, codeAny_builtin F.entry_list_iadd ?_⟩
  rw [Around.under_plainId F.plain_list_iadd _]
  have hS₁ : (s.heap.push { cls := .type "list", data := .seq ([] : List Value).toArray }).get? s.heap.objs.size = some { cls := .type "list", data := .seq ([] : List Value).toArray } := Heap.get?_push_size _ rfl
  have k1 : ∀ b o, s.heap.get? b = some o → (s.heap.push { cls := .type "list", data := .seq ([] : List Value).toArray }).get? b = some o := fun b o e => Heap.get?_push_of_some _ e
  have gty : (s.heap.push { cls := .type "list", data := .seq ([] : List Value).toArray }).IsGen a g := hgo _ (k1 _ _ hat)
  show wpAny _ A.in1 (Builtin.List.listExtendWith (.ref s.heap.objs.size) (.ref a) (.ref s.heap.objs.size)) _ _ _
  unfold Builtin.List.listExtendWith
  refine wpAny_bind (wpAny_typeOf (Heap.IsGen.typeIs (s := { s with heap := _ }) gty) ?_)
  have h1 : Builtin.List.listSameRef (.ref s.heap.objs.size) (.ref a) = false := by simp [Builtin.List.listSameRef, hSa]
  have h2 : (Value.type "generator" == Value.type "list") = false := by decide
  have h3 : (Value.type "generator" == Value.type "tuple") = false := by decide
  simp only [h1, h2, h3, Bool.or_false, Bool.false_eq_true, if_false]
  refine wpAny_bind (wpAny_pyIter_gen (s := { s with heap := _ }) gty ?_)
  refine wpAny_bind (wpAny_holding ?_)
  unfold Builtin.List.listLengthHint
  refine wpAny_bind (wpAny_specialOf (Heap.IsGen.typeIs (s := { s with heap := _ }) gty) F.gen_no_len ?_)
  show wpAny _ A.in1 (specialOf (Value.ref a) (Str.ofString "__length_hint__") >>= _) _ _ _
  refine wpAny_bind (wpAny_specialOf (Heap.IsGen.typeIs (s := { s with heap := _ }) gty) F.gen_no_hint ?_)
  refine wpAny_pure ?_
  show wpAny _ A.in1 (rule "list.extend.makes-room" >>= fun _ => Builtin.List.listTouch (.ref s.heap.objs.size) >>= fun _ =>
    again (.builtin "list.extend.loop" ⟨[.ref s.heap.objs.size, .ref a, .ref s.heap.objs.size], []⟩)) _ _ _
  refine wpAny_bind (wpAny_rule ?_)
  refine wpAny_bind ?_
  show wpAny _ A.in1 (updateSeq s.heap.objs.size (·.push .none) >>= fun _ => updateSeq s.heap.objs.size (·.pop)) _ _ _
  refine wpAny_bind (wpAny_updateSeq hS₁ rfl ?_)
  have hS3 := Heap.get?_update_self (Obj.mapSeq (·.push Value.none)) hS₁ rfl
  refine wpAny_updateSeq (hz := by seq_fits) hS3 rfl ?_
  have hS4 := Heap.get?_update_self (Obj.mapSeq (·.pop)) hS3 rfl
  have up : ∀ (h : Heap) (f : Obj → Obj), (∀ b o, s.heap.get? b = some o → h.get? b = some o) → ∀ b o, s.heap.get? b = some o → (h.update s.heap.objs.size f).get? b = some o := fun h f q b o e =>
    (Heap.get?_update_other _ _ (Ne.symm (Nat.ne_of_lt (Heap.lt_size e)))).trans (q b o e)
  have k4 := up _ (Obj.mapSeq (·.pop)) (up _ (Obj.mapSeq (·.push Value.none)) k1)
  refine wpAny_pure ⟨plainId_quiet F.plain_extend_loop _, ?_⟩
  have hroom : Room (k + 1) A.in1.in1 := ⟨hr.hd, by have := hr.dp; show A.depth + 3 * (k + 1) + 5 < _; omega, by have := hr.un; show A.units + 1 + 1 + 16 * (k + 1) + 200 < _; omega⟩
  refine drainL (G := gcx X sB HB N' cenv fp (A.in1.in1.deeper cenv) [(a, go)]) (Th := Th) (Qe := Qe) (σ0 := σ0) (go := go) hr.hd (by have := hr.dp; show A.depth < _; omega) (List.mem_singleton.mpr rfl) hgo hSa hSc
    (fun s' ys acc c pl H q1 q2 q3 q4 q5 q6 => ?_) sizeLine _ (hlim.keeps k4) (hgo _ (k4 _ _ hat)) (susp_of hgs (run A.in1.in1 _ [s.heap.objs.size] (GhL s.heap.objs.size) _ hroom hfr (fun b hb => by rw [List.mem_singleton.mp hb]; exact Nat.le_refl _) k4 hos (allBare_setGen (s := { s with heap := _ }) hb rfl)
      ⟨rfl, fun p hp => by rw [List.mem_singleton.mp hp]; exact ⟨hS4, fun v q => by cases q⟩⟩ ⟨#[], _, rfl, .nil⟩))
  show wpAny _ A (load s.heap.objs.size >>= _) _ _ s'
  refine wpAny_bind (wpAny_load q2 ?_)
  exact wpAny_pure (hQ s' acc.toList ys H q1 q3 (inv_back I hex q4) q6)
end GX
set_option Elab.async false
set_option linter.all false
set_option maxRecDepth 100000
set_option maxHeartbeats 4000000
namespace GX
open PySem PySem.Spec PyProof.Rows L2 GenW

theorem boot_sorted' : bootBuiltins "sorted" = some (.builtin "sorted") := by decide +kernel
theorem boot_sum' : bootBuiltins "sum" = some (.builtin "sum") := by decide +kernel
theorem boot_any' : bootBuiltins "any" = some (.builtin "any") := by decide +kernel
theorem boot_all' : bootBuiltins "all" = some (.builtin "all") := by decide +kernel

section
variable {X : Cx} {pins : Pins} {σ : L2.St} {H : Hp} {s : Shared}
theorem inv_A (I : Inv X pins σ H s) {A' : Around} (h1 : A'.handled = X.A.handled) (h2 : A'.frames = X.A.frames) : Inv { X with A := A' } pins σ H s :=
  ⟨⟨I.ok.mod, I.ok.kind, I.ok.glob, I.ok.blt, I.ok.above, I.ok.inj, I.ok.has, I.ok.cab, fun c => h1.trans (I.ok.hd c), h2.trans I.ok.frames, I.ok.stk, I.ok.exf, I.ok.bs, I.ok.bsz, I.ok.noex, I.ok.exfs, I.ok.funs, I.ok.frf⟩, I.os, I.bare, I.base, I.loc, I.cell, I.free, I.freeC, I.pin, I.hok, I.len⟩
theorem inv_A' {A' : Around} (I : Inv { X with A := A' } pins σ H s) (h1 : X.A.handled = A'.handled) (h2 : X.A.frames = A'.frames) : Inv X pins σ H s := inv_A (X := { X with A := A' }) I h1 h2
end

section
variable {X : Cx} {p pos : Pos} {e : Expr} {tg : TGx} {k : Nat}
/-- sorted(g): r is list.sort's rule -/
def tSortedG (tg : TGx) (r : V → List V → Hp → VK → Prop) : TE := fun σ H Q => tg σ H (fun _ _ _ => True) fun ys H1 => ∀ l, H1 l = none → r (.ref l) [] (upd H1 l (.lst ys)) fun _ H2 => Q (.ref l) H2
theorem pe_sortedG {r : V → List V → Hp → VK → Prop} (h : PGx X k e tg) (hs : ∀ A', MtR { X with A := A' } "list.sort" r) (hr : Room (k + 5) X.A) (hg : Gl X "sorted") (hm : X.mg "sorted" = none)
    (he : starEach [e] X.env = (false, eval e X.env) :: starEach [] X.env := by rfl) : PE X (.Call (.Name "sorted" p) [e] [] pos) (tSortedG tg r) := by
  refine ⟨fun pins s σ H Q I hq => ?_⟩
  refine wpAny_Call_Name_kw (ld_blt I hg hm boot_sorted' ?_)
  refine PyProof.Rows.callWith_builtin1 ?_ he (by rfl)
  rw [he]
  show wpAny _ _ (spliced ((false, eval e X.env) :: backTo pos (starEach [] X.env))) _ _ s
  refine Calls.spliced_cons (thn (h.run pins s σ H _ _ I hq) fun u s1 hG => ?_)
  refine Calls.spliced_nil ?_
  refine Calls.call_function_entry kind_sorted plain_sorted entry_sorted (args_sorted1 _) ?_
  unfold Builtin.«sorted»
  refine wpAny_bind (m := checkCount "sorted" 1 1 _) (wpAny_pure ?_)
  have hr1 : Room (k + 4) X.A.in1 := ⟨hr.hd, by have := hr.dp; show X.A.depth + 3 * (k + 4) + 5 < _; omega, by have := hr.un; show X.A.units + 1 + 16 * (k + 4) + 200 < _; omega⟩
  refine wpAny_bind (collect_gx (pins := pins) (σ := σ) hr1 I.ok.frames (fun _ _ _ => trivial) hG fun s' its ys H1 hlen hv I1 hq1 => ?_)
  have hil : its.length ≤ sizeLine := by rw [← hv.length]; exact hlen
  refine wpAny_bind (wpAny_newList ?_ hil)
  have fresh : H1 s'.heap.objs.size = none := I1.hok.fresh (Nat.le_refl _)
  have I2 : Inv X pins σ (upd H1 s'.heap.objs.size (.lst ys)) { s' with heap := s'.heap.push (seqObj "list" its.toArray 0) } :=
    I1.laid (t' := s'.toks) (fun _ _ e => Heap.get?_push_of_some _ e) (Nat.le_refl _) ⟨hlen, its, 0, hv, Heap.get?_push_size _ rfl⟩
  refine wpAny_bind (wpAny_holding ?_)
  refine wpAny_mono (hs X.A.in1 pins _ σ _ (.ref s'.heap.objs.size) [] (.ref s'.heap.objs.size) [] _ (inv_A (A' := X.A.in1) I2 rfl rfl) rfl .nil (hq1 _ fresh)) (fun v s3 h3 => ?_) fun _ _ e => e
  obtain ⟨v', H3, I3, r3, q3⟩ := h3
  exact wpAny_pure ⟨_, rfl, .ref s'.heap.objs.size, H3, inv_A' I3 rfl rfl, rfl, q3⟩

/-! ### sum -/
def vsum : List V → Int
  | [] => 0
  | .int i :: r => i + vsum r
  | _ :: r => vsum r
theorem vsum_append (xs ys : List V) : vsum (xs ++ ys) = vsum xs + vsum ys := by
  induction xs with
  | nil => simp [vsum]
  | cons v r ih =>
    cases v <;> simp [vsum, ih] <;> omega
theorem vsum_ints (is : List Int) : vsum (is.map V.int) = is.sum := by
  induction is with
  | nil => rfl
  | cons i r ih => simp [vsum, ih]
def GhS (S : Addr) : List V → Pins → Prop := fun ys pl => ∃ (t : Tok) (c : Nat), pl = [(S, lstObj #[.int (vsum ys) t] c)]
def ThS : List V → V → Hp → Prop := fun ys x _ => ∃ j, x = .int j ∧ InLong j ∧ InLong (vsum ys + j)
theorem drainS {G : Cx} {Qe : List V → Hp → Prop} {σ0 : L2.St} {A : Around} {a S : Addr} {g : Nat} {go : Obj} {R : Result → Shared → Prop} (hh : A.handled = none) (hd : A.depth < recursionLimit) (hpa : (a, go) ∈ G.pn) (hgo : ∀ h : Heap, h.get? a = some go → h.IsGen a g)
    (hSa : S ≠ a) (hSc : S ≠ cStatics)
    (hend : ∀ s' ys t pl H, Inv G pl σ0 H s' → Qe ys H → R (.ok (.ret (.int (vsum ys) t))) s') :
    ∀ (n : Nat) (s : Shared) (z : Int) (t : Tok) (c : Nat), s.heap.NoLimit → s.heap.IsGen a g → s.heap.get? S = some (lstObj #[.int z t] c) → Susp G ⟨[S], GhS S, ThS, Qe⟩ σ0 A.in1 g n s → codeAny (model G.prog G.w) A (.builtin "sum.loop" ⟨[.ref a, .ref S, rawInt 0, rawInt 0], []⟩) R s := by
  intro n
  induction n using Nat.strongRecOn with
  | ind n ih =>
    intro s z t c hl hg hS0 hS
    refine codeAny_builtin F.entry_sum_loop ?_
    rw [Around.under_plainId F.plain_sum_loop _]
    show wpAny _ A.in1 (seqItems? (.ref S) >>= _) _ _ s
    refine wpAny_bind (wpAny_seqItems hS0 rfl ?_)
    show wpAny _ A.in1 (tryCatch (pyNext (.ref a)) _ >>= _) _ _ s
    have hS0' := hS0
    refine wpAny_bind (wpAny_tryCatch ?_)
    refine gx_next (A := A.in1) hh hd hl hg hS (fun ys x v pl H s1 h1 h2 h3 h4 h5 h6 h8 h7 => ?_) fun s1 hp => ?_
    · obtain ⟨t', c', rfl⟩ := h4
      have e1 : s1.heap.get? S = some (lstObj #[.int (vsum ys) t'] c') := (h3.at_ _ (List.mem_singleton.mpr rfl)).1
      have e2 := e1.symm.trans ((h8 S (List.mem_singleton.mpr rfl)).trans hS0)
      obtain ⟨j, rfl, ⟨f1, f2⟩, f3, f4⟩ := h6
      obtain ⟨tv, rfl⟩ := (show ∃ t, v = Value.int j t from h2)
      have ez : z = vsum ys := by
        have e3 : (#[Value.int (vsum ys) t'] : Array Value) = #[.int z t] := by
          have := congrArg Obj.data (Option.some.inj e2)
          injection this
        have e4 := congrArg Array.toList e3
        simp only [List.cons.injEq, Value.int.injEq, and_true] at e4
        exact e4.1.symm
      subst ez
      have hc : ((decide (-(2 ^ 63) ≤ j) && decide (j < 2 ^ 63)) && (decide (-(2 ^ 63) ≤ vsum ys + j) && decide (vsum ys + j < 2 ^ 63))) = true := by
        simp only [Bool.and_eq_true, decide_eq_true_eq]
        exact ⟨⟨f1, f2⟩, f3, f4⟩
      show wpAny _ A.in1 (if (_ : Bool) = true then (mkInt (vsum ys + j) >>= _) else _) _ _ _
      split
      · refine wpAny_bind (wpAny_mkInt ?_)
        show wpAny _ A.in1 (updateSeq S (fun _ => #[.int (vsum ys + j) s1.toks]) >>= _) _ _ _
        refine wpAny_bind ?_
        refine wpAny_updateSeq e1 rfl (wpAny_pure ⟨plainId_quiet F.plain_sum_loop _, ?_⟩)
        have keep3 : ∀ b o, b ≠ S → s1.heap.get? b = some o → (s1.heap.update S (Obj.mapSeq (fun _ => #[.int (vsum ys + j) s1.toks]))).get? b = some o := fun b o hbS e => (Heap.get?_update_other _ _ (Ne.symm hbS)).trans e
        obtain ⟨c2, hSn⟩ : ∃ c2, (s1.heap.update S (Obj.mapSeq (fun _ => #[.int (vsum ys + j) s1.toks]))).get? S = some (lstObj #[.int (vsum ys + j) s1.toks] c2) := ⟨_, Heap.get?_update_self _ e1 rfl⟩
        obtain ⟨m, hm, hS2⟩ := h7 { s1 with heap := s1.heap.update S (Obj.mapSeq (fun _ => #[.int (vsum ys + j) s1.toks])), toks := s1.toks + 1 } [(S, lstObj #[.int (vsum ys + j) s1.toks] c2)] ⟨rfl, h5.bare, fun b o hb e => keep3 b o (fun z => hb (by rw [z]; exact List.mem_singleton.mpr rfl)) e⟩ rfl
          ⟨rfl, fun p hp => by rw [List.mem_singleton.mp hp]; exact ⟨hSn, fun v q => by cases q⟩⟩ ⟨s1.toks, c2, by rw [vsum_append]; simp [vsum]⟩
        refine ih m (by omega) _ (vsum ys + j) s1.toks c2 ?_ ?_ hSn hS2
        · obtain ⟨mc, hns, hnn⟩ := h5.nolimit
          exact ⟨mc, hns.at' fun o e => keep3 _ o (Ne.symm hSc) e, hnn⟩
        · exact hgo _ (keep3 a go (Ne.symm hSa) (h5.pin (a, go) (List.mem_append_left _ hpa)).1)
      · rename_i hneg
        exact absurd hc hneg
    · obtain ⟨ys, pl, H, q1, q2, ⟨t', c', rfl⟩, q4, q5, q6⟩ := hp
      have e1 : s1.heap.get? S = some (lstObj #[.int (vsum ys) t'] c') := (q2.at_ _ (List.mem_singleton.mpr rfl)).1
      have e2 := e1.symm.trans ((q6 S (List.mem_singleton.mpr rfl)).trans hS0)
      have ez : z = vsum ys := by
        have e3 : (#[Value.int (vsum ys) t'] : Array Value) = #[.int z t] := by
          have := congrArg Obj.data (Option.some.inj e2)
          injection this
        have e4 := congrArg Array.toList e3
        simp only [List.cons.injEq, Value.int.injEq, and_true] at e4
        exact e4.1.symm
      subst ez
      exact wpAny_pure (hend s1 ys t _ H q4 q5)
def tSumG (tg : TGx) : TE := fun σ H Q => tg σ H ThS fun ys H1 => Q (.int (vsum ys)) H1
theorem pe_sumG (h : PGx X k e tg) (hr : Room (k + 4) X.A) (hg : Gl X "sum") (hm : X.mg "sum" = none)
    (he : starEach [e] X.env = (false, eval e X.env) :: starEach [] X.env := by rfl) : PE X (.Call (.Name "sum" p) [e] [] pos) (tSumG tg) := by
  refine ⟨fun pins s σ H Q I hq => ?_⟩
  refine wpAny_Call_Name_kw (ld_blt I hg hm boot_sum' ?_)
  refine PyProof.Rows.callWith_builtin1 ?_ he (by rfl)
  rw [he]
  show wpAny _ _ (spliced ((false, eval e X.env) :: backTo pos (starEach [] X.env))) _ _ s
  refine Calls.spliced_cons (thn (h.run pins s σ H _ _ I hq) fun u s1 hG => ?_)
  refine Calls.spliced_nil ?_
  obtain ⟨a, g, c, go, sB, HB, N', cenv, fp, σ0, rfl, I1, hex, ha1, ha2, hgo, hat, hgs, hos, hb, hkp, run⟩ := hG
  have hsB : sB.heap.NoLimit := I1.nolimit
  have hcl : cStatics < sB.heap.objs.size := let ⟨_, hn, _⟩ := hsB; hn.lt
  have hlim : s1.heap.NoLimit := hsB.keeps hkp
  refine call_function_tree F.kind_sum F.plain_sum F.entry_sum (F.args_sum1 _) ?_
  unfold Builtin.«sum»
  simp only [List.length_cons, List.length_nil]
  rw [if_neg (by decide)]
  refine wpAny_bind (wpAny_of_eq (show Builtin.Builtins.bindParams "sum" ["start"] 0 { } = pure [none] from rfl) ?_)
  refine wpAny_bind (wpAny_pyIter_gen (hgo _ hat) ?_)
  refine wpAny_bind (wpAny_mkInt ?_)
  refine wpAny_bind (wpAny_pure ?_)
  simp only [List.forIn_cons, List.forIn_nil]
  refine wpAny_bind (wpAny_bind (wpAny_bind (wpAny_isInstance (T := "int") (b := false) (typeIs_int _ _ _) PySem.sub_int_str ?_)))
  simp only [Bool.false_eq_true, if_false]
  refine wpAny_pure (wpAny_bind (wpAny_bind (wpAny_isInstance (T := "int") (b := false) (typeIs_int _ _ _) PySem.sub_int_bytes ?_)))
  simp only [Bool.false_eq_true, if_false]
  refine wpAny_pure (wpAny_bind (wpAny_bind (wpAny_isInstance (T := "int") (b := false) (typeIs_int _ _ _) PySem.sub_int_bytearray ?_)))
  simp only [Bool.false_eq_true, if_false]
  refine wpAny_pure (wpAny_pure ?_)
  refine wpAny_bind (wpAny_newObj_type ?_)
  have k1 : ∀ (o : Obj) b u, s1.heap.get? b = some u → (s1.heap.push o).get? b = some u := fun o b u e => Heap.get?_push_of_some _ e
  have hroom : Room (k + 1) X.A.in1.in1 := ⟨hr.hd, by have := hr.dp; show X.A.depth + 3 * (k + 1) + 5 < _; omega, by have := hr.un; show X.A.units + 1 + 1 + 16 * (k + 1) + 200 < _; omega⟩
  have hS0 : ∀ t, (s1.heap.push { cls := .type "list", data := .seq ([Value.int 0 t] : List Value).toArray }).get? s1.heap.objs.size = some (lstObj #[.int (vsum []) t] 0) := fun t => Heap.get?_push_size _ rfl
  refine wpAny_pure ⟨plainId_quiet F.plain_sum_loop _, ?_⟩
  refine drainS (G := gcx X sB HB N' cenv fp (X.A.in1.in1.deeper cenv) [(a, go)]) (Qe := fun ys H1 => Q (V.int (vsum ys)) H1) (σ0 := σ0) (A := X.A) (go := go) hr.hd (by have := hr.dp; show X.A.depth < _; omega) (List.mem_singleton.mpr rfl) hgo (Nat.ne_of_gt ha2) (Nat.ne_of_gt (Nat.lt_trans hcl (Nat.lt_trans ha1 ha2)))
    (fun s' ys t pl H1 q1 q2 => ?_) sizeLine _ (vsum []) s1.toks 0 ?_ ?_ ?_ ?_
  · exact ⟨.int (vsum ys), H1, inv_back I1 hex q1, ⟨t, rfl⟩, q2⟩
  · exact hlim.keeps (k1 _)
  · exact hgo _ (k1 _ _ _ hat)
  · exact hS0 _
  · refine susp_of hgs (run X.A.in1.in1 _ [s1.heap.objs.size] (GhS s1.heap.objs.size) _ hroom I.ok.frames (fun b hb => by rw [List.mem_singleton.mp hb]; exact Nat.le_refl _) (k1 _) hos (allBare_setGen (s := { s1 with heap := _ }) hb rfl) ?_ ⟨s1.toks, 0, rfl⟩)
    exact ⟨rfl, fun p hp => by rw [List.mem_singleton.mp hp]; exact ⟨hS0 _, fun v q => by cases q⟩⟩
end

/-! ### any, all -/
theorem drain1 {G : Cx} {nm : String} {bb : Bool} {Th : List V → V → Hp → Prop} {Qe : List V → Hp → Prop} {σ0 : L2.St} {A : Around} {a : Addr} {g : Nat} {go : Obj} {R : Result → Shared → Prop} (hh : A.handled = none) (hd : A.depth < recursionLimit) (hpa : (a, go) ∈ G.pn) (hgo : ∀ h : Heap, h.get? a = some go → h.IsGen a g)
    (hTh : ∀ ys x H, Th ys x H → ∃ b, x = .bl b)
    (step : ∀ (s : Shared) (R' : Result → Shared → Prop), wpAny (model G.prog G.w) A.in1 (pyNext (.ref a)) (fun r s1 => match r with
        | none => R' (.ok (.ret (.bool (!bb)))) s1
        | some v => ∃ b, v = .bool b ∧ if b = bb then R' (.ok (.ret (.bool bb))) s1 else codeAny (model G.prog G.w) A (.builtin nm ⟨[.ref a], []⟩) R' s1) (fun e s1 => R' (.error e) s1) s → codeAny (model G.prog G.w) A (.builtin nm ⟨[.ref a], []⟩) R' s)
    (hend : ∀ s' ys pl H, Inv G pl σ0 H s' → Qe ys H → (∀ y ∈ ys, y ≠ V.bl bb) → R (.ok (.ret (.bool (!bb)))) s') (hyes : ∀ s' ys pl H, Inv G pl σ0 H s' → Th ys (.bl bb) H → R (.ok (.ret (.bool bb))) s') :
    ∀ (n : Nat) (s : Shared), s.heap.NoLimit → s.heap.IsGen a g → Susp G ⟨[], fun ys pl => pl = [] ∧ ∀ y ∈ ys, y ≠ V.bl bb, Th, Qe⟩ σ0 A.in1 g n s → codeAny (model G.prog G.w) A (.builtin nm ⟨[.ref a], []⟩) R s := by
  intro n
  induction n using Nat.strongRecOn with
  | ind n ih =>
    intro s hl hg hS
    refine step s R (gx_next (A := A.in1) hh hd hl hg hS (fun ys x v pl H s1 h1 h2 h3 h4 h5 h6 h8 h7 => ?_) fun s1 hp => ?_)
    · obtain ⟨b, rfl⟩ := hTh _ _ _ h6
      have ev : v = Value.bool b := h2
      refine ⟨b, ev, ?_⟩
      by_cases hb : b = bb
      · rw [if_pos hb]
        subst hb
        exact hyes s1 ys pl H h5 h6
      · rw [if_neg hb]
        obtain ⟨m, hm, hS2⟩ := h7 s1 [] ⟨rfl, h5.bare, fun _ _ _ e => e⟩ rfl ⟨rfl, fun p hp => absurd hp (by simp)⟩ ⟨rfl, fun y hy => by
          rcases List.mem_append.mp hy with z | z
          · exact h4.2 y z
          · rw [List.mem_singleton.mp z]
            exact fun q => hb (V.bl.inj q)⟩
        exact ih m (by omega) s1 h5.nolimit (hgo _ (h5.pin (a, go) (List.mem_append_left _ hpa)).1) hS2
    · obtain ⟨ys, pl, H, q1, q2, q3, q4, q5, q6⟩ := hp
      exact hend s1 ys pl H q4 q5 q3.2
theorem step_any {prog : Program} {w : World} {A : Around} {a : Addr} (s : Shared) (R' : Result → Shared → Prop) (h : wpAny (model prog w) A.in1 (pyNext (.ref a)) (fun r s1 => match r with
        | none => R' (.ok (.ret (.bool (!true)))) s1
        | some v => ∃ b, v = .bool b ∧ if b = true then R' (.ok (.ret (.bool true))) s1 else codeAny (model prog w) A (.builtin "any.loop" ⟨[.ref a], []⟩) R' s1) (fun e s1 => R' (.error e) s1) s) : codeAny (model prog w) A (.builtin "any.loop" ⟨[.ref a], []⟩) R' s := by
  refine codeAny_builtin F.entry_any_loop ?_
  rw [Around.under_plainId F.plain_any_loop _]
  show wpAny _ A.in1 (pyNext (.ref a) >>= _) _ _ s
  refine wpAny_bind (thn h fun r s1 h1 => ?_)
  cases r with
  | none => exact wpAny_bind (wpAny_rule (wpAny_pure h1))
  | some v =>
    obtain ⟨b, rfl, h1⟩ := h1
    refine wpAny_bind (wpAny_holding (wpAny_truthy_bool ?_))
    refine wpAny_bind (wpAny_letGo ?_)
    cases b with
    | true =>
      simp only [if_true]
      exact wpAny_bind (wpAny_rule (wpAny_pure h1))
    | false =>
      simp only [Bool.false_eq_true, if_false]
      exact wpAny_pure ⟨plainId_quiet F.plain_any_loop _, h1⟩
theorem step_all {prog : Program} {w : World} {A : Around} {a : Addr} (s : Shared) (R' : Result → Shared → Prop) (h : wpAny (model prog w) A.in1 (pyNext (.ref a)) (fun r s1 => match r with
        | none => R' (.ok (.ret (.bool (!false)))) s1
        | some v => ∃ b, v = .bool b ∧ if b = false then R' (.ok (.ret (.bool false))) s1 else codeAny (model prog w) A (.builtin "all.loop" ⟨[.ref a], []⟩) R' s1) (fun e s1 => R' (.error e) s1) s) : codeAny (model prog w) A (.builtin "all.loop" ⟨[.ref a], []⟩) R' s := by
  refine codeAny_builtin F.entry_all_loop ?_
  rw [Around.under_plainId F.plain_all_loop _]
  show wpAny _ A.in1 (pyNext (.ref a) >>= _) _ _ s
  refine wpAny_bind (thn h fun r s1 h1 => ?_)
  cases r with
  | none => exact wpAny_bind (wpAny_rule (wpAny_pure h1))
  | some v =>
    obtain ⟨b, rfl, h1⟩ := h1
    refine wpAny_bind (wpAny_holding (wpAny_truthy_bool ?_))
    refine wpAny_bind (wpAny_letGo ?_)
    cases b with
    | false =>
      simp only [Bool.false_eq_true, if_false]
      exact wpAny_bind (wpAny_rule (wpAny_pure h1))
    | true =>
      simp only [if_true]
      exact wpAny_pure ⟨plainId_quiet F.plain_all_loop _, h1⟩
def tAnyG (tg : TGx) : TE := fun σ H Q => tg σ H (fun _ x H1 => ∃ b, x = .bl b ∧ (b = true → Q (.bl true) H1)) fun ys H1 => (∀ y ∈ ys, y ≠ V.bl true) → Q (.bl false) H1
def tAllG (tg : TGx) : TE := fun σ H Q => tg σ H (fun _ x H1 => ∃ b, x = .bl b ∧ (b = false → Q (.bl false) H1)) fun ys H1 => (∀ y ∈ ys, y ≠ V.bl false) → Q (.bl true) H1
section
variable {X : Cx} {p pos : Pos} {e : Expr} {tg : TGx} {k : Nat}
theorem pe_anyG (h : PGx X k e tg) (hr : Room (k + 4) X.A) (hg : Gl X "any") (hm : X.mg "any" = none)
    (he : starEach [e] X.env = (false, eval e X.env) :: starEach [] X.env := by rfl) : PE X (.Call (.Name "any" p) [e] [] pos) (tAnyG tg) := by
  refine ⟨fun pins s σ H Q I hq => ?_⟩
  refine wpAny_Call_Name_kw (ld_blt I hg hm boot_any' ?_)
  refine PyProof.Rows.callWith_builtin1 ?_ he (by rfl)
  rw [he]
  show wpAny _ _ (spliced ((false, eval e X.env) :: backTo pos (starEach [] X.env))) _ _ s
  refine Calls.spliced_cons (thn (h.run pins s σ H _ _ I hq) fun u s1 hG => ?_)
  refine Calls.spliced_nil ?_
  obtain ⟨a, g, c, go, sB, HB, N', cenv, fp, σ0, rfl, I1, hex, ha1, ha2, hgo, hat, hgs, hos, hb, hkp, run⟩ := hG
  refine call_function_tree F.kind_any F.plain_any F.entry_any (F.args_any1 _) ?_
  unfold Builtin.«any»
  refine wpAny_bind (m := oneArg "any" _) (wpAny_pure ?_)
  refine wpAny_bind (wpAny_pyIter_gen (hgo _ hat) ?_)
  have hroom : Room (k + 1) X.A.in1.in1 := ⟨hr.hd, by have := hr.dp; show X.A.depth + 3 * (k + 1) + 5 < _; omega, by have := hr.un; show X.A.units + 1 + 1 + 16 * (k + 1) + 200 < _; omega⟩
  refine wpAny_pure ⟨plainId_quiet F.plain_any_loop _, ?_⟩
  refine drain1 (G := gcx X sB HB N' cenv fp (X.A.in1.in1.deeper cenv) [(a, go)]) (bb := true) (nm := "any.loop") (Th := fun _ x H1 => ∃ b, x = .bl b ∧ (b = true → Q (.bl true) H1)) (Qe := fun ys H1 => (∀ y ∈ ys, y ≠ V.bl true) → Q (.bl false) H1) (σ0 := σ0) (A := X.A) (go := go) hr.hd (by have := hr.dp; show X.A.depth < _; omega) (List.mem_singleton.mpr rfl) hgo
    (fun _ _ _ ⟨b, e, _⟩ => ⟨b, e⟩) step_any (fun s' ys pl H1 q1 q2 q3 => ?_) (fun s' ys pl H1 q1 q2 => ?_) sizeLine _ (I1.nolimit.keeps hkp) (hgo _ hat) (susp_of hgs (run X.A.in1.in1 _ [] (fun ys pl => pl = [] ∧ ∀ y ∈ ys, y ≠ V.bl true) [] hroom I.ok.frames (fun b hb => absurd hb (by simp)) (fun _ _ e => e) hos (allBare_setGen hb rfl) ⟨rfl, fun p hp => absurd hp (by simp)⟩ ⟨rfl, fun y hy => absurd hy (by simp)⟩))
  · exact ⟨.bl false, H1, inv_back I1 hex q1, rfl, q2 q3⟩
  · obtain ⟨b, e, q2⟩ := q2
    cases e
    exact ⟨.bl true, H1, inv_back I1 hex q1, rfl, q2 rfl⟩
theorem pe_allG (h : PGx X k e tg) (hr : Room (k + 4) X.A) (hg : Gl X "all") (hm : X.mg "all" = none)
    (he : starEach [e] X.env = (false, eval e X.env) :: starEach [] X.env := by rfl) : PE X (.Call (.Name "all" p) [e] [] pos) (tAllG tg) := by
  refine ⟨fun pins s σ H Q I hq => ?_⟩
  refine wpAny_Call_Name_kw (ld_blt I hg hm boot_all' ?_)
  refine PyProof.Rows.callWith_builtin1 ?_ he (by rfl)
  rw [he]
  show wpAny _ _ (spliced ((false, eval e X.env) :: backTo pos (starEach [] X.env))) _ _ s
  refine Calls.spliced_cons (thn (h.run pins s σ H _ _ I hq) fun u s1 hG => ?_)
  refine Calls.spliced_nil ?_
  obtain ⟨a, g, c, go, sB, HB, N', cenv, fp, σ0, rfl, I1, hex, ha1, ha2, hgo, hat, hgs, hos, hb, hkp, run⟩ := hG
  refine call_function_tree F.kind_all F.plain_all F.entry_all (F.args_all1 _) ?_
  unfold Builtin.«all»
  refine wpAny_bind (m := oneArg "all" _) (wpAny_pure ?_)
  refine wpAny_bind (wpAny_pyIter_gen (hgo _ hat) ?_)
  have hroom : Room (k + 1) X.A.in1.in1 := ⟨hr.hd, by have := hr.dp; show X.A.depth + 3 * (k + 1) + 5 < _; omega, by have := hr.un; show X.A.units + 1 + 1 + 16 * (k + 1) + 200 < _; omega⟩
  refine wpAny_pure ⟨plainId_quiet F.plain_all_loop _, ?_⟩
  refine drain1 (G := gcx X sB HB N' cenv fp (X.A.in1.in1.deeper cenv) [(a, go)]) (bb := false) (nm := "all.loop") (Th := fun _ x H1 => ∃ b, x = .bl b ∧ (b = false → Q (.bl false) H1)) (Qe := fun ys H1 => (∀ y ∈ ys, y ≠ V.bl false) → Q (.bl true) H1) (σ0 := σ0) (A := X.A) (go := go) hr.hd (by have := hr.dp; show X.A.depth < _; omega) (List.mem_singleton.mpr rfl) hgo
    (fun _ _ _ ⟨b, e, _⟩ => ⟨b, e⟩) step_all (fun s' ys pl H1 q1 q2 q3 => ?_) (fun s' ys pl H1 q1 q2 => ?_) sizeLine _ (I1.nolimit.keeps hkp) (hgo _ hat) (susp_of hgs (run X.A.in1.in1 _ [] (fun ys pl => pl = [] ∧ ∀ y ∈ ys, y ≠ V.bl false) [] hroom I.ok.frames (fun b hb => absurd hb (by simp)) (fun _ _ e => e) hos (allBare_setGen hb rfl) ⟨rfl, fun p hp => absurd hp (by simp)⟩ ⟨rfl, fun y hy => absurd hy (by simp)⟩))
  · exact ⟨.bl true, H1, inv_back I1 hex q1, rfl, q2 q3⟩
  · obtain ⟨b, e, q2⟩ := q2
    cases e
    exact ⟨.bl false, H1, inv_back I1 hex q1, rfl, q2 rfl⟩
end
end GX
set_option Elab.async false
set_option linter.all false
set_option maxRecDepth 100000
set_option maxHeartbeats 4000000
/-! What all laws of this program share. -/
namespace KC
open PySem PySem.Spec PyProof.Rows L2 GX Evl

/-- a def of the top, called by its name -/
structure Cal (P : Program) (w : World) (K : PySem.W.Frag) (mg : Str → Option Value) (base : Heap) (nm : Str) (k : Nat) (ps : List Str) (sp : Sp) : Prop where
  out : ∃ f fd, mg nm = some (.ref f) ∧ PySem.W.keepIn K (.ref f) = true ∧ Binds K fd ps [] ∧ FnOk P w K mg base CX0 k f fd ps sp
theorem pe_callC {X : Cx} {nm : Str} {k : Nat} {ps : List Str} {sp : Sp} {p pos : Pos} {e : Expr} {es : List Expr} {t : TA} (C : Cal X.prog X.w X.K X.mg X.base nm k ps sp) (hr : Room k X.A) (hg : Gl X nm) (ha : PA X (e :: es) t)
    (hdb : (nm == ("__debug__" : Str)) = false := by decide) (he : starEach (e :: es) X.env = (false, eval e X.env) :: starEach es X.env := by rfl) (hpl : (backTo pos (starEach es X.env)).any (·.1) = false := by rfl) :
    PE X (.Call (.Name nm p) (e :: es) [] pos) (tCall sp [] E0 t) := by
  obtain ⟨f, fd, h1, h2, h3, h4⟩ := C.out
  exact pe_call h4 hr hg h1 h2 h3 .nil pass0 ha hdb he hpl

/-- the builtins that no def of the text hides -/
structure Bs (mg : Str → Option Value) : Prop where
  len : mg "len" = none
  int : mg "int" = none
  min : mg "min" = none
  max : mg "max" = none
  list : mg "list" = none
  sorted : mg "sorted" = none
  sum : mg "sum" = none
  range : mg "range" = none
  enumerate : mg "enumerate" = none
  zip : mg "zip" = none
  any : mg "any" = none
  isinstance : mg "isinstance" = none
  bool : mg "bool" = none
  reversed : mg "reversed" = none

/-- a def whose code object is known (its table of codes is used) -/
structure FunT (K : PySem.W.Frag) (x qual : Str) (st : Stmt) (f : Addr) (fd : FuncData) (c : Addr) : Prop where
  ex : ∃ (oc : Value) (od : Option Addr) (kV doc pm : Value) (an : Option Addr) (ct : Value) (osl : Array (Option Value)),
    fd = PySem.W.fnOf x qual (defArgs st) (defBody st) (defScope st) .none kV doc pm an (.ref c) ct ∧ K.lookup f = some ⟨oc, od, .func fd, osl⟩ ∧ PySem.W.codeIn K (.ref c) qual = true
  kp : PySem.W.keepIn K (.ref f) = true
theorem FunT.fn {K : PySem.W.Frag} {x qual : Str} {st : Stmt} {f c : Addr} {fd : FuncData} (F : FunT K x qual st f fd c) : Fun K x qual st f fd := by
  obtain ⟨oc, od, kV, doc, pm, an, ct, osl, h1, h2, h3⟩ := F.ex
  exact ⟨⟨oc, od, kV, doc, pm, an, .ref c, ct, osl, h1, h2, h3⟩, F.kp⟩
section
variable {P : Program} {w : World} {K : PySem.W.Frag} {mg : Str → Option Value} {base : Heap}
theorem FunT.ok {x qual : Str} {st : Stmt} {f c : Addr} {fd : FuncData} {N ps : List Str} {k : Nat} {sp : Sp} (F : FunT K x qual st f fd c) (S : FnScope N ps (defScope st)) (len : ∀ vs H Q E, sp vs H Q E → vs.length = ps.length)
    (hbody : ∀ (A : Around) (outer : List Env) (s : Shared) (H : Hp) (vs : List V) (Q : VK) (E : XK), Room k (A.deeper (envOfC qual (defScope st) s.heap.objs.size f (.ref c))) → sp vs H Q E →
      ∃ t, PSs (cxOf CX0 P w K mg base N qual (defScope st) f (.ref c) A outer s H E).nox (defBody st) t ∧ t { nx := fun _ H' => Q .non H', rt := Q } (start N vs) H) : FnOk P w K mg base CX0 (k + 1) f fd ps sp := by
  obtain ⟨oc, od, kV, doc, pm, an, ct, osl, rfl, lk, hcd⟩ := F.ex
  refine fn_of lk hcd S len fun A outer s H vs Q E hr hsp => ?_
  obtain ⟨t, h, q⟩ := hbody A outer s H vs Q E hr hsp
  exact ⟨t, h.nox, q⟩
theorem cal_of {nm : Str} {st : Stmt} {f : Addr} {fd : FuncData} {k : Nat} {ps : List Str} {sp : Sp} (F : Fun K nm nm st f fd) (g : mg nm = some (.ref f)) (b : Binds K fd ps []) (ok : FnOk P w K mg base CX0 k f fd ps sp) : Cal P w K mg base nm k ps sp :=
  ⟨f, fd, g, F.kp, b, ok⟩
end

/-! ### heaps -/
theorem ex_of_new {H H' : Hp} {p : Addr} {o : HO} (e : Ex H H') (h : H' p = none) : Ex H (upd H' p o) := e.trans (Ex.new h)
mutual
theorem Dp.ext {K : PySem.W.Frag} {H H' : Hp} (e : Ex H H') : ∀ (d : PyData) (v : V), Dp K H v d → Dp K H' v d
  | .none, _, h => by cases h; exact .non
  | .bool b, _, h => by cases h; exact .bl b
  | .int i, _, h => by cases h; exact .int i
  | .str x, _, h => by cases h; exact .str x
  | .list ds, _, h => by
    cases h with
    | lst h1 h2 => exact .lst (ex_l e h1) (DpAll.ext e ds _ h2)
  | .tuple ds, _, h => by
    cases h with
    | tup h1 h2 => exact .tup (ex_t e h1) (DpAll.ext e ds _ h2)
  | .dict _, _, h => by cases h
theorem DpAll.ext {K : PySem.W.Frag} {H H' : Hp} (e : Ex H H') : ∀ (ds : List PyData) (vs : List V), DpAll K H vs ds → DpAll K H' vs ds
  | [], _, h => by cases h; exact .nil
  | d :: ds, _, h => by
    cases h with
    | cons h1 h2 => exact .cons (Dp.ext e d _ h1) (DpAll.ext e ds _ h2)
end
theorem DpAll.app {K : PySem.W.Frag} {H : Hp} : ∀ {vs : List V} {ds : List PyData} {v : V} {d : PyData}, DpAll K H vs ds → Dp K H v d → DpAll K H (vs ++ [v]) (ds ++ [d])
  | [], _, _, _, h, h2 => by cases h; exact .cons h2 .nil
  | _ :: _, _, _, _, h, h2 => by
    cases h with
    | cons a b => exact .cons a (DpAll.app b h2)
theorem DpAll.len {K : PySem.W.Frag} {H : Hp} : ∀ {vs : List V} {ds : List PyData}, DpAll K H vs ds → vs.length = ds.length
  | [], _, h => by cases h; rfl
  | _ :: _, _, h => by
    cases h with
    | cons a b => exact congrArg (· + 1) (DpAll.len b)
theorem dpAll_ints {K : PySem.W.Frag} {H : Hp} : ∀ ns : List Int, DpAll K H (ns.map V.int) (ns.map PyData.int)
  | [] => .nil
  | n :: r => .cons (.int n) (dpAll_ints r)
theorem eqvAll_ints : ∀ xs ys : List Int, PyData.eqvAll (xs.map PyData.int) (ys.map PyData.int) = decide (xs = ys)
  | [], [] => by simp [PyData.eqvAll]
  | [], _ :: _ => by simp [PyData.eqvAll]
  | _ :: _, [] => by simp [PyData.eqvAll]
  | x :: xs, y :: ys => by
    simp only [List.map_cons, PyData.eqvAll, PyData.eqv, eqvAll_ints xs ys]
    by_cases h1 : x = y <;> by_cases h2 : xs = ys <;> simp [h1, h2]
theorem int_at {ns : List Int} {i : Nat} (h : i < ns.length) : (ns.map V.int)[i]? = some (.int (ns.getD i 0)) := by
  rw [List.getElem?_map, List.getElem?_eq_getElem h, List.getD_eq_getElem?_getD, List.getElem?_eq_getElem h]
  rfl
theorem atI_at {ns : List Int} {z : Int} {i : Nat} (e : z = (i : Int)) (h : i < ns.length) : atI (ns.map V.int) z = some (.int (ns.getD i 0)) := at_of e (int_at h)

/-! ### more readings, in short -/
section
variable {K : PySem.W.Frag} {σ : L2.St} {H H' : Hp} {ta tb te tx : TE} {t u : TT} {x y z v : V} {D : Ends} {tu tw tz : TS} {g : TG}
theorem rv_mod {i j : Int} (h : 0 < j) : RV (rI (fun _ j => 0 < j) fun i j => .int (i % j)) (.int i) (.int j) H (.int (i % j)) := rv_I h
theorem rv_div {i j : Int} (h : 0 < j) (h2 : j < 1073741824) : RV (rI CDiv fun i j => .int (i / j)) (.int i) (.int j) H (.int (i / j)) := rv_I ⟨h, h2⟩
theorem rv_mul {i j : Int} (h : -(2 ^ 64) < i ∧ i < 2 ^ 64) : RV (rI CMul fun i j => .int (i * j)) (.int i) (.int j) H (.int (i * j)) := rv_I (.inl h)
theorem rc_val {r : List V → Hp → VK → Prop} {vs : List V} (h : ∀ H1, Ex H H1 → ∀ Q : VK, Q z H1 → r vs H1 Q) : RC r vs H z := fun H1 e Q q => h H1 e Q (q H1 (Ex.refl H1))
theorem rc_int {i : Int} : RC (fun xs H Q => (∃ i, xs = [.int i] ∧ Q (.int i) H) ∨ ∃ k, xs = [.bl k] ∧ Q (.int (if k then 1 else 0)) H) [.int i] H (.int i) := rc_val fun _ _ _ q => .inl ⟨i, rfl, q⟩
theorem rc_len {a : Addr} {xs : List V} {r : List V → Hp → VK → Prop} (h : ∀ H1, Ex H H1 → ∀ Q : VK, Q (.int (xs.length : Int)) H1 → r [.ref a] H1 Q) : RC r [.ref a] H (.int (xs.length : Int)) := rc_val h
theorem ea1 (h : Ev ta σ H x) : EvA (tCons ta tNil) σ H [x] := ea_cons h ea_nil
theorem ea2 (h : Ev ta σ H x) (h2 : Ev tb σ H y) : EvA (tCons ta (tCons tb tNil)) σ H [x, y] := ea_cons h (ea1 h2)
theorem ea3 {tc : TE} (h : Ev ta σ H x) (h2 : Ev tb σ H y) (h3 : Ev tc σ H z) : EvA (tCons ta (tCons tb (tCons tc tNil))) σ H [x, y, z] := ea_cons h (ea2 h2 h3)
end
end KC
set_option Elab.async false
set_option linter.all false
set_option maxRecDepth 100000
set_option maxHeartbeats 4000000
namespace KC
open PySem PySem.Spec PyProof.Rows L2 GX Evl

/-- it gives data d -/
def EvD (K : PySem.W.Frag) (te : TE) (σ : L2.St) (H : Hp) (d : PyData) : Prop := ∀ H1, Ex H H1 → ∀ Q : VK, (∀ v H2, Ex H1 H2 → Dp K H2 v d → Q v H2) → te σ H1 Q
def EvDA (K : PySem.W.Frag) (ta : TA) (σ : L2.St) (H : Hp) (ds : List PyData) : Prop := ∀ H1, Ex H H1 → ∀ Q : List V → Hp → Prop, (∀ vs H2, Ex H1 H2 → DpAll K H2 vs ds → Q vs H2) → ta σ H1 Q
def RetD (K : PySem.W.Frag) (d : PyData) (H : Hp) (Q : VK) : Prop := ∀ v H2, Ex H H2 → Dp K H2 v d → Q v H2
def SpD (K : PySem.W.Frag) (sp : Sp) (vs : List V) (H : Hp) (d : PyData) : Prop := ∀ H1, Ex H H1 → ∀ Q : VK, (∀ v H2, Ex H1 H2 → Dp K H2 v d → Q v H2) → ∀ E : XK, sp vs H1 Q E
mutual
def noList : PyData → Bool
  | .list _ => false
  | .dict _ => false
  | .tuple ds => noListAll ds
  | _ => true
def noListAll : List PyData → Bool
  | [] => true
  | d :: r => noList d && noListAll r
end
theorem sqt_put {K : PySem.W.Frag} {H : Hp} {l a : Addr} {zs ys xs : List V} (h : SqT K H a xs) (hl : H l = some (.lst zs)) : SqT K (upd H l (.lst ys)) a xs := by
  rcases h with (h | ⟨o, h⟩) | h
  · exact .inl (.inl (by rw [upd_ne (fun e => by rw [e, hl] at h; cases h)]; exact h))
  · exact .inl (.inr ⟨o, by rw [upd_ne (fun e => by rw [e, hl] at h; cases h)]; exact h⟩)
  · exact .inr h
theorem sql_put {K : PySem.W.Frag} {H : Hp} {l a : Addr} {ys xs : List V} (h : SqL K H a xs) (hl : a ≠ l) : SqL K (upd H l (.lst ys)) a xs := by
  rcases h with (h | ⟨o, h⟩) | h
  · exact .inl (.inl (by rw [upd_ne hl]; exact h))
  · exact .inl (.inr ⟨o, by rw [upd_ne hl]; exact h⟩)
  · exact .inr h
mutual
theorem Dp.put {K : PySem.W.Frag} {H : Hp} {l : Addr} {zs ys : List V} (hl : H l = some (.lst zs)) : ∀ (d : PyData) (v : V), noList d = true → Dp K H v d → Dp K (upd H l (.lst ys)) v d
  | .none, _, _, h => by cases h; exact .non
  | .bool b, _, _, h => by cases h; exact .bl b
  | .int i, _, _, h => by cases h; exact .int i
  | .str x, _, _, h => by cases h; exact .str x
  | .list _, _, z, _ => by simp [noList] at z
  | .tuple ds, _, z, h => by
    cases h with
    | tup h1 h2 => exact .tup (sqt_put h1 hl) (DpAll.put hl ds _ (by simpa [noList] using z) h2)
  | .dict _, _, _, h => by cases h
theorem DpAll.put {K : PySem.W.Frag} {H : Hp} {l : Addr} {zs ys : List V} (hl : H l = some (.lst zs)) : ∀ (ds : List PyData) (vs : List V), noListAll ds = true → DpAll K H vs ds → DpAll K (upd H l (.lst ys)) vs ds
  | [], _, _, h => by cases h; exact .nil
  | d :: ds, _, z, h => by
    cases h with
    | cons h1 h2 =>
      simp only [noListAll, Bool.and_eq_true] at z
      exact .cons (Dp.put hl d _ z.1 h1) (DpAll.put hl ds _ z.2 h2)
end
theorem noListAll_map {α : Type} {f : α → PyData} (hf : ∀ a, noList (f a) = true) : ∀ xs : List α, noListAll (xs.map f) = true
  | [] => rfl
  | a :: r => by simp [noListAll, hf a, noListAll_map hf r]

section
variable {K : PySem.W.Frag} {σ : L2.St} {H H' : Hp} {ta tb te tx : TE} {t u : TT} {x y z v : V} {D : Ends} {tu tw tz : TS} {g : TG} {d d2 : PyData} {ds : List PyData}
theorem EvD.mono (e : Ex H H') (h : EvD K te σ H d) : EvD K te σ H' d := fun H1 a Q q => h H1 (e.trans a) Q q
theorem ed_int {i : Int} (h : Ev te σ H (.int i)) : EvD K te σ H (.int i) := fun H1 e Q q => h H1 e Q fun H2 e2 => q _ H2 e2 (.int i)
theorem ed_non (h : Ev te σ H .non) : EvD K te σ H .none := fun H1 e Q q => h H1 e Q fun H2 e2 => q _ H2 e2 .non
theorem ed_bl {b : Bool} (h : Ev te σ H (.bl b)) : EvD K te σ H (.bool b) := fun H1 e Q q => h H1 e Q fun H2 e2 => q _ H2 e2 (.bl b)
theorem ed_at (h : Ev te σ H v) (hd : Dp K H v d) : EvD K te σ H d := fun H1 e Q q => h H1 e Q fun H2 e2 => q _ H2 e2 (Dp.ext (e.trans e2) _ _ hd)
theorem eda_nil : EvDA K tNil σ H [] := fun H1 _ Q q => q [] H1 (Ex.refl H1) .nil
theorem eda_cons {tr : TA} (h : EvD K te σ H d) (hr : EvDA K tr σ H ds) : EvDA K (tCons te tr) σ H (d :: ds) := fun H1 e Q q =>
  h H1 e _ fun v H2 e2 hv => hr H2 (e.trans e2) _ fun vs H3 e3 hvs => q _ H3 (e2.trans e3) (.cons (Dp.ext e3 _ _ hv) hvs)
theorem ed_tup {ta : TA} (h : EvDA K ta σ H ds) (hl : ds.length ≤ 100000) : EvD K (tTup ta) σ H (.tuple ds) := fun H1 e Q q =>
  h H1 e _ fun vs H2 e2 hvs => ⟨sz_of (by rw [DpAll.len hvs]; exact hl), fun p hp => q _ _ (e2.trans (Ex.new hp)) (.tup (.inl (.inl upd_same)) (DpAll.ext (Ex.new hp) _ _ hvs))⟩
theorem ed_lst {ta : TA} (h : EvDA K ta σ H ds) (hl : ds.length ≤ 100000) : EvD K (tLst ta) σ H (.list ds) := fun H1 e Q q =>
  h H1 e _ fun vs H2 e2 hvs => ⟨sz_of (by rw [DpAll.len hvs]; exact hl), fun p hp => q _ _ (e2.trans (Ex.new hp)) (.lst (.inl (.inl upd_same)) (DpAll.ext (Ex.new hp) _ _ hvs))⟩
theorem ed_call {sp : Sp} {dvs vs : List V} {E : XK} {ta : TA} (h : EvA ta σ H vs) (hs : SpD K sp (vs ++ dvs) H d) : EvD K (tCall sp dvs E ta) σ H d := fun H1 e Q q =>
  h H1 e _ fun H2 e2 => hs H2 (e.trans e2) Q (fun v H3 e3 hv => q v H3 (e2.trans e3) hv) E
/-- a list of ints as data -/
theorem ed_listI {ns : List Int} (h : EvL te σ H (ns.map V.int)) : EvD K te σ H (.list (ns.map PyData.int)) := fun H1 e Q q =>
  h H1 e Q fun p H2 _ e2 hp => q _ H2 e2 (.lst (.inl (.inl hp)) (dpAll_ints ns))
theorem dp_listI {l : Addr} {ns : List Int} (h : SqL K H l (ns.map V.int)) : Dp K H (.ref l) (.list (ns.map PyData.int)) := .lst h (dpAll_ints ns)
theorem s_retD (h : EvD K te σ H d) (k : ∀ v H1, Ex H H1 → Dp K H1 v d → D.rt v H1) : tRet te D σ H := h H (Ex.refl H) _ k
theorem s_asgD {i : Nat} (h : EvD K te σ H d) (k : ∀ v H1, Ex H H1 → Dp K H1 v d → D.nx (σ.set i (some v)) H1) : tAsg te (gName i) D σ H := h H (Ex.refl H) _ k
theorem q_asgD {i : Nat} (h : EvD K te σ H d) (k : ∀ v H1, Ex H H1 → Dp K H1 v d → tz D (σ.set i (some v)) H1) : tSeq (tAsg te (gName i)) tz D σ H := s_asgD (D := { D with nx := tz D }) h k
/-- xs.append(data) -/
theorem s_appD {l : Addr} {xs : List V} (hl : H l = some (.lst xs)) (ha : Ev ta σ H (.ref l)) (h : EvD K te σ H d) (hz : xs.length < 100000) (k : ∀ v H1, Ex H H1 → Dp K H1 v d → D.nx σ (upd H1 l (.lst (xs ++ [v])))) :
    tDrop (tBM K "list" rAppend ta (tCons te tNil)) D σ H := ha H (Ex.refl H) _ fun H1 e1 =>
  ⟨Or.inl ⟨rfl, xs, sq_of (e1 l _ hl)⟩, h H1 e1 _ fun v H2 e2 hv => ⟨l, xs, v, rfl, rfl, e2 l _ (e1 l _ hl), sz_lt hz, k v H2 (e1.trans e2) hv⟩⟩
/-- data equal, not equal -/
theorem ev_eqD (ha : EvD K ta σ H d) (hb : EvD K tb σ H d2) (h1 : SeqAt.shaped d = true) (h2 : SeqAt.shaped d2 = true) : Ev (tOp (rEqD K) ta tb) σ H (.bl (PyData.eqv d d2)) := fun H1 e Q q =>
  ha H1 e _ fun v H2 e2 hv => hb H2 (e.trans e2) _ fun u H3 e3 hu => ⟨d, d2, Dp.ext e3 _ _ hv, hu, h1, h2, q H3 (e2.trans e3)⟩
theorem ev_neD (ha : EvD K ta σ H d) (hb : EvD K tb σ H d2) (h1 : SeqAt.shaped d = true) (h2 : SeqAt.shaped d2 = true) : Ev (tOp (rNeD K) ta tb) σ H (.bl (!PyData.eqv d d2)) := fun H1 e Q q =>
  ha H1 e _ fun v H2 e2 hv => hb H2 (e.trans e2) _ fun u H3 e3 hu => ⟨d, d2, Dp.ext e3 _ _ hv, hu, h1, h2, q H3 (e2.trans e3)⟩
theorem el_cat {xs ys : List V} {b : Addr} (ha : EvL ta σ H xs) (hb : Ev tb σ H (.ref b)) (h : H b = some (.lst ys)) (hz : xs.length + ys.length ≤ 100000) : EvL (tOp rCat ta tb) σ H (xs ++ ys) := fun H1 e Q q =>
  ha H1 e _ fun p H2 np e2 hp => hb H2 (e.trans e2) _ fun H3 e3 => ⟨p, b, xs, ys, rfl, rfl, e3 p _ hp, ((e.trans e2).trans e3) b _ h, sz_of hz, fun p2 hp2 => q p2 _ (fresh_back (e2.trans e3) hp2) ((e2.trans e3).trans (Ex.new hp2)) upd_same⟩
theorem el_cat2 {xs ys : List V} {a b : Addr} (ha : Ev ta σ H (.ref a)) (h0 : H a = some (.lst xs)) (hb : Ev tb σ H (.ref b)) (h : H b = some (.lst ys)) (hz : xs.length + ys.length ≤ 100000) : EvL (tOp rCat ta tb) σ H (xs ++ ys) := fun H1 e Q q =>
  ha H1 e _ fun H2 e2 => hb H2 (e.trans e2) _ fun H3 e3 => ⟨a, b, xs, ys, rfl, rfl, ((e.trans e2).trans e3) a _ h0, ((e.trans e2).trans e3) b _ h, sz_of hz, fun p2 hp2 => q p2 _ (fresh_back (e2.trans e3) hp2) ((e2.trans e3).trans (Ex.new hp2)) upd_same⟩
theorem el_rep {xs : List V} {i : Int} (ha : EvL ta σ H xs) (hb : Ev tb σ H (.int i)) (h1 : 0 ≤ i ∧ i ≤ 10000) (hz : xs.length ≤ 10) : EvL (tOp rRep ta tb) σ H (List.replicate i.toNat xs).flatten := fun H1 e Q q =>
  ha H1 e _ fun p H2 np e2 hp => hb H2 (e.trans e2) _ fun H3 e3 => ⟨p, i, xs, rfl, rfl, e3 p _ hp, by omega, by omega, sz_of (Nat.le_trans (Nat.mul_le_mul hz (show i.toNat ≤ 10000 by omega)) (by decide)), fun p2 hp2 => q p2 _ (fresh_back (e2.trans e3) hp2) ((e2.trans e3).trans (Ex.new hp2)) upd_same⟩
theorem el_rev {xs : List V} {a : Addr} (ha : Ev ta σ H (.ref a)) (h : SqL K H a xs) : EvL (tRevL K ta) σ H xs.reverse := fun H1 e Q q =>
  ha H1 e _ fun H2 e2 => ⟨a, xs, rfl, ex_l (e.trans e2) h, fun p hp => q p _ (fresh_back e2 hp) (e2.trans (Ex.new hp)) upd_same⟩
theorem el_if {b : Bool} {xs : List V} (h : EvT t σ H b) (h1 : b = true → EvL ta σ H xs) (h2 : b = false → EvL tb σ H xs) : EvL (tIf t ta tb) σ H xs := fun H1 e Q q => h H1 e _ fun H2 e2 => by
  cases b with
  | true => exact h1 rfl H2 (e.trans e2) Q fun p H3 hp e3 => q p H3 (fresh_back e2 hp) (e2.trans e3)
  | false => exact h2 rfl H2 (e.trans e2) Q fun p H3 hp e3 => q p H3 (fresh_back e2 hp) (e2.trans e3)
theorem rv_shl {i j : Int} (h : 0 ≤ j ∧ j ≤ 1000000 ∧ i.natAbs < 2 ^ 64) : RV (rI CPow fun i j => .int (i * 2 ^ j.toNat)) (.int i) (.int j) H (.int (i * 2 ^ j.toNat)) := rv_I h
theorem rv_shr {i j : Int} (h : 0 ≤ j) : RV (rI (fun _ j => 0 ≤ j) fun i j => .int (i / 2 ^ j.toNat)) (.int i) (.int j) H (.int (i / 2 ^ j.toNat)) := rv_I h
theorem rc_min {i j : Int} : RC (fun xs H Q => ∃ i j, xs = [.int i, .int j] ∧ Q (.int (if j < i then j else i)) H) [.int i, .int j] H (.int (if j < i then j else i)) := rc_val fun _ _ _ q => ⟨i, j, rfl, q⟩
theorem rc_max {i j : Int} : RC (fun xs H Q => ∃ i j, xs = [.int i, .int j] ∧ Q (.int (if j > i then j else i)) H) [.int i, .int j] H (.int (if j > i then j else i)) := rc_val fun _ _ _ q => ⟨i, j, rfl, q⟩
theorem ev_min {i j : Int} (h : Ev ta σ H (.int i)) (h2 : Ev tb σ H (.int j)) : Ev (tCB (fun xs H Q => ∃ i j, xs = [.int i, .int j] ∧ Q (.int (if j < i then j else i)) H) (tCons ta (tCons tb tNil))) σ H (.int (if j < i then j else i)) := ev_cb (ea2 h h2) rc_min
theorem ev_add {i j : Int} (h : Ev ta σ H (.int i)) (h2 : Ev tb σ H (.int j)) : Ev (tOp (rI0 fun i j => .int (i + j)) ta tb) σ H (.int (i + j)) := ev_op h h2 rv_I0
theorem ev_sub {i j : Int} (h : Ev ta σ H (.int i)) (h2 : Ev tb σ H (.int j)) : Ev (tOp (rI0 fun i j => .int (i - j)) ta tb) σ H (.int (i - j)) := ev_op h h2 rv_I0
theorem ev_lt {i j : Int} (h : Ev ta σ H (.int i)) (h2 : Ev tb σ H (.int j)) : Ev (tOp (rI0 fun i j => .bl (decide (i < j))) ta tb) σ H (.bl (decide (i < j))) := ev_op h h2 rv_I0
theorem ev_eq {i j : Int} (h : Ev ta σ H (.int i)) (h2 : Ev tb σ H (.int j)) : Ev (tOp rEq ta tb) σ H (.bl (decide (i = j))) := by
  have q := ev_op h h2 (rv_eq (x := .int i) (y := .int j) rfl)
  have e : decide ((V.int i) = V.int j) = decide (i = j) := by
    by_cases z : i = j
    · subst z; simp
    · rw [decide_eq_false z, decide_eq_false (fun q => z (V.int.inj q))]
  rw [e] at q
  exact q
theorem ev_ne {i j : Int} (h : Ev ta σ H (.int i)) (h2 : Ev tb σ H (.int j)) : Ev (tOp rNe ta tb) σ H (.bl (!decide (i = j))) := by
  have q := ev_op h h2 (rv_ne (x := .int i) (y := .int j) rfl)
  have e : decide ((V.int i) = V.int j) = decide (i = j) := by
    by_cases z : i = j
    · subst z; simp
    · rw [decide_eq_false z, decide_eq_false (fun q => z (V.int.inj q))]
  rw [e] at q
  exact q
end
end KC
set_option Elab.async false
set_option linter.all false
set_option maxRecDepth 100000
set_option maxHeartbeats 4000000
namespace KC
open PySem PySem.Spec PyProof.Rows L2 GX Evl
def capC (N N' : List Str) (cm : List (Option Nat)) (scope sc : Scope) : Bool :=
  decide (scope.kind = .function) && !scope.isCoroutine && (scope.names.all fun y => decide (y.2 ≠ .cell)) && decide (scope.names.lookup (".0" : Str) = some NameKind.local) &&
    (scope.names.all fun y => !decide (y.2 = .free) || (decide (sc.names.lookup y.1 = some .cell) || decide (sc.names.lookup y.1 = some .free))) && decide (cm.length = N'.length) &&
    ((cm.zip N').all fun p => match p.1 with | some j => (N[j]? == some p.2) && (scope.names.lookup p.2 == some .free) | none => true)
theorem capOk_by {N N' : List Str} {cm : List (Option Nat)} {scope sc : Scope} (h : capC N N' cm scope sc = true) : CapOk N N' cm scope sc := by
  unfold capC at h
  simp only [Bool.and_eq_true, List.all_eq_true, decide_eq_true_eq, Bool.not_eq_true', Bool.or_eq_true, decide_eq_false_iff_not] at h
  obtain ⟨⟨⟨⟨⟨⟨h1, h2⟩, h3⟩, h4⟩, h5⟩, h6⟩, h7⟩ := h
  refine ⟨h1, h2, h3, h4, fun y hy e => ?_, h6, ?_⟩
  · rcases h5 y hy with z | z
    · exact absurd e z
    · exact z
  · rw [List.all_eq_true]
    intro p hp
    have := h7 p hp
    revert this
    cases p.1 <;> simp
theorem ix_listK {X : Cx} {K : PySem.W.Frag} (h : X.K = K) : IxR X (rIxL K) := by
  subst h
  exact ix_list
theorem ix_tupK {X : Cx} {K : PySem.W.Frag} (h : X.K = K) : IxR X (rIxT K) := by
  subst h
  exact ix_tup
theorem canLayAll0_map {α : Type} {f : α → PyData} (h : ∀ a, (f a).canLay0 = true) : ∀ xs : List α, PyData.canLayAll0 (xs.map f) = true
  | [] => by simp [PyData.canLayAll0]
  | a :: r => by simp [PyData.canLayAll0, h a, canLayAll0_map h r]
theorem depthAll_map {α : Type} {f : α → PyData} {n : Nat} (h : ∀ a, (f a).depth ≤ n) : ∀ xs : List α, PyData.depthAll (xs.map f) ≤ n
  | [] => by simp [PyData.depthAll]
  | a :: r => by
    have h1 := depthAll_map h r
    have h2 := h a
    simp only [List.map_cons, PyData.depthAll]
    omega
theorem shaped_list {α : Type} {f : α → PyData} {n : Nat} (hn : n ≤ 60) (h1 : ∀ a, (f a).canLay0 = true) (h2 : ∀ a, (f a).depth ≤ n) (xs : List α) : SeqAt.shaped (.list (xs.map f)) = true := by
  have h3 := depthAll_map h2 xs
  have h4 : PyData.depth (.list (xs.map f)) ≤ 64 := by simp only [PyData.depth]; omega
  show (PyData.canLay0 (.list (xs.map f)) && decide (PyData.depth (.list (xs.map f)) ≤ 64)) = true
  rw [Bool.and_eq_true]
  exact ⟨by simp only [PyData.canLay0]; exact canLayAll0_map h1 xs, decide_eq_true h4⟩
theorem shaped_ints (ns : List Int) : SeqAt.shaped (.list (ns.map PyData.int)) = true := shaped_list (n := 1) (by decide) (fun a => by simp [PyData.canLay0]) (fun a => by simp [PyData.depth]) ns
theorem eqvAll_map {α : Type} {f : α → PyData} (h : ∀ a, PyData.eqv (f a) (f a) = true) : ∀ xs : List α, PyData.eqvAll (xs.map f) (xs.map f) = true
  | [] => by simp [PyData.eqvAll]
  | a :: r => by simp [PyData.eqvAll, h a, eqvAll_map h r]
theorem eqv_list {α : Type} {f : α → PyData} (h : ∀ a, PyData.eqv (f a) (f a) = true) (xs : List α) : PyData.eqv (.list (xs.map f)) (.list (xs.map f)) = true := by
  simp only [PyData.eqv]
  exact eqvAll_map h xs
theorem eqv_ints (xs : List Int) : PyData.eqv (.list (xs.map PyData.int)) (.list (xs.map PyData.int)) = true := eqv_list (fun a => by simp [PyData.eqv]) xs
section
variable {K : PySem.W.Frag} {σ : L2.St} {H H' : Hp} {ta tb tc te tx : TE}
theorem ev_sumL {ns : List Int} (h : EvL te σ H (ns.map V.int)) : Ev (tCB (rSum K) (tCons te tNil)) σ H (.int ns.sum) := fun H1 e Q q =>
  h H1 e _ fun p H2 _ e2 hp => ⟨p, ns, rfl, sq_of hp, q H2 e2⟩
theorem ev_sumLa {ns : List Int} {a : Addr} (h : Ev te σ H (.ref a)) (hs : SqL K H a (ns.map V.int)) : Ev (tCB (rSum K) (tCons te tNil)) σ H (.int ns.sum) := fun H1 e Q q =>
  h H1 e _ fun H2 e2 => ⟨a, ns, rfl, ex_l (e.trans e2) hs, q H2 e2⟩
theorem et_yes : EvT tYes σ H true := fun H1 _ _ q => q H1 (Ex.refl H1)
/-- list(xs) -/
theorem el_listOf {p : Addr} {xs : List V} (ha : Ev ta σ H (.ref p)) (h : SqL K H p xs) : EvL (tCB (fun xs H Q => ∃ p ys, xs = [.ref p] ∧ (SqL K H p ys ∨ SqT K H p ys) ∧ ∀ l, H l = none → Q (.ref l) (upd H l (.lst ys))) (tCons ta tNil)) σ H xs := fun H1 e Q q =>
  ha H1 e _ fun H2 e2 => ⟨p, xs, rfl, .inl (ex_l (e.trans e2) h), fun l hl => q l _ (fresh_back e2 hl) (e2.trans (Ex.new hl)) upd_same⟩
/-- a call whose third argument is a new tuple -/
theorem ed_call3U {sp : Sp} {E : XK} {x y : V} {xs : List V} {d : PyData} (h1 : Ev ta σ H x) (h2 : Ev tb σ H y) (h3 : EvU tc σ H xs) (hs : ∀ p H1, Ex H H1 → H1 p = some (.tup xs) → SpD K sp [x, y, .ref p] H1 d) : EvD K (tCall sp [] E (tCons ta (tCons tb (tCons tc tNil)))) σ H d := fun H1 e Q q =>
  h1 H1 e _ fun H2 e2 => h2 H2 (e.trans e2) _ fun H3 e3 => h3 H3 ((e.trans e2).trans e3) _ fun p H4 hp e4 h4 =>
    hs p H4 (((e.trans e2).trans e3).trans e4) h4 H4 (Ex.refl _) Q (fun v H5 e5 hv => q v H5 (((e2.trans e3).trans e4).trans e5) hv) E
end
end KC
set_option Elab.async false
set_option linter.all false
set_option maxRecDepth 100000
set_option maxHeartbeats 4000000
namespace KC
open PySem PySem.Spec PyProof.Rows L2 StX GX Evl
section
variable {K : PySem.W.Frag} {σ : L2.St} {H H' : Hp} {ta tb tc te tx tl : TE} {D : Ends} {tz : TS}
theorem tt_yes {A B : Hp → Prop} (h : A H) : tYes σ H (fun b H3 => if b = true then A H3 else B H3) := by
  show (if true = true then A H else B H)
  rw [if_pos rfl]
  exact h
/-- a < b < c -/
theorem ev_chain {r r2 : R2} {x y z : V} {b1 b2 : Bool} (h1 : Ev ta σ H x) (h2 : Ev tb σ H y) (h3 : RV r x y H (.bl b1)) (h4 : b1 = true → Ev tc σ H z) (h5 : b1 = true → RV r2 y z H (.bl b2)) : Ev (tChain r r2 ta tb tc) σ H (.bl (b1 && b2)) := fun H1 e Q q =>
  h1 H1 e _ fun H2 e2 => h2 H2 (e.trans e2) _ fun H3 e3 => h3 H3 ((e.trans e2).trans e3) _ fun H4 e4 => by
    have e14 := (e2.trans e3).trans e4
    refine ⟨b1, rfl, ?_⟩
    cases b1 with
    | false =>
      rw [if_neg Bool.false_ne_true]
      exact q H4 e14
    | true =>
      rw [if_pos rfl]
      exact h4 rfl H4 (e.trans e14) _ fun H5 e5 => h5 rfl H5 ((e.trans e14).trans e5) _ fun H6 e6 => q H6 ((e14.trans e5).trans e6)
/-- max([c, *xs]) where c is not below any -/
theorem ev_maxStar {c : Int} {l : Addr} {ls : List Int} (h : Ev ta σ H (.int c)) (h2 : Ev tb σ H (.ref l)) (hs : SqL K H l (ls.map V.int)) (hb : ∀ x ∈ ls, x ≤ c) (hz : ls.length ≤ 1000) :
    Ev (tCB (rMax K) (tCons (tLst (tCons ta (tStar K tb tNil))) tNil)) σ H (.int c) := fun H1 e Q q =>
  h H1 e _ fun H2 e2 => h2 H2 (e.trans e2) _ fun H3 e3 => by
    refine ⟨l, ls.map V.int, rfl, .inr (ex_l ((e.trans e2).trans e3) hs), sz_of ?_, fun p hp => ⟨p, c :: ls, rfl, sq_of ?_, Nat.succ_pos _, fun m hm hall => ?_⟩⟩
    · simp
      omega
    · rw [upd_same, List.append_nil]
      rfl
    · have h1 := hall c List.mem_cons_self
      have h3 : m ≤ c := by
        rcases List.mem_cons.mp hm with z | z
        · omega
        · exact hb m z
      have h4 : m = c := by omega
      subst h4
      exact q _ ((e2.trans e3).trans (Ex.new hp))
theorem max_of : ∀ ls : List Int, ls ≠ [] → ∃ m, m ∈ ls ∧ ∀ y ∈ ls, y ≤ m
  | [], h => absurd rfl h
  | [x], _ => ⟨x, List.mem_cons_self, fun y hy => by rw [List.mem_singleton.mp hy]; exact Int.le_refl _⟩
  | x :: y :: r, _ => by
    obtain ⟨m, h1, h2⟩ := max_of (y :: r) (by simp)
    by_cases e : m ≤ x
    · refine ⟨x, List.mem_cons_self, fun z hz => ?_⟩
      rcases List.mem_cons.mp hz with h | h
      · omega
      · have := h2 z h; omega
    · refine ⟨m, List.mem_cons_of_mem _ h1, fun z hz => ?_⟩
      rcases List.mem_cons.mp hz with h | h
      · omega
      · exact h2 z h
/-- max(xs) -/
theorem ev_maxL {l : Addr} {ls : List Int} {m : Int} (h : Ev ta σ H (.ref l)) (hs : SqL K H l (ls.map V.int)) (hm : m ∈ ls) (hall : ∀ y ∈ ls, y ≤ m) : Ev (tCB (rMax K) (tCons ta tNil)) σ H (.int m) := fun H1 e Q q =>
  h H1 e _ fun H2 e2 => ⟨l, ls, rfl, ex_l (e.trans e2) hs, List.length_pos_of_mem hm, fun n hn hal => by
    have h1 := hal m hm
    have h2 := hall n hn
    have : n = m := by omega
    subst this
    exact q H2 e2⟩
theorem sum_bd : ∀ (l : List Int) (B : Int), (∀ x ∈ l, 0 ≤ x ∧ x ≤ B) → 0 ≤ l.sum ∧ l.sum ≤ l.length * B
  | [], B, _ => by simp
  | x :: r, B, h => by
    have h1 := sum_bd r B fun y hy => h y (List.mem_cons_of_mem _ hy)
    have h2 := h x List.mem_cons_self
    have e : ((x :: r).length : Int) * B = r.length * B + B := by
      rw [List.length_cons, Int.natCast_add, Int.add_mul]
      simp
    rw [List.sum_cons, e]
    omega
/-- sum(f(x) for x in xs if b(x)) -/
theorem ev_sumLF {tt : TT} {Pt l : Addr} {cm : List (Option Nat)} {own : List Nat} {xs : List Int} (f : Int → Int) (b : Int → Bool) (h : Ev tl σ H (.ref l)) (hx : SqL K H l (xs.map V.int)) (hn : xs.length ≤ 1000) (tab : H Pt = some (TabX Pt))
    (hf : ∀ x ∈ xs, 0 ≤ f x ∧ f x ≤ 2 ^ 40) (hw : ∀ x, wipe ((captS cm σ).set 0 (some x)) own = captS cm σ) (ht : ∀ x ∈ xs, ∀ H1, Ex H H1 → EvT tt ((captS cm σ).set 0 (some (.int x))) H1 (b x))
    (he : ∀ x ∈ xs, b x = true → ∀ H1, Ex H H1 → Ev te ((captS cm σ).set 0 (some (.int x))) H1 (.int (f x))) :
    Ev (tSumG (tGx Pt (iList K tl) (gName 0) tt te cm own)) σ H (.int ((xs.filter b).map f).sum) := fun H1 e Q q =>
  h H1 e _ fun H3 e13 => by
    have e03 := e.trans e13
    have hxl : (xs.map V.int).length = xs.length := List.length_map _
    refine ⟨l, rfl, ⟨_, ex_l e03 hx⟩, e03 Pt _ tab, fun i m zs H' => m + i = xs.length ∧ Ex H3 H' ∧ zs = (((xs.take i).filter b).map f).map V.int, ⟨xs.length, by omega, Ex.refl _, rfl⟩, ?_⟩
    rintro i m zs H' ⟨hm, e4, rfl⟩
    have e04 := e03.trans e4
    by_cases hi : i < xs.length
    · right
      refine ⟨⟨_, _, ex_l e04 hx, int_at hi⟩, fun zs H5 => (m - 1) + (i + 1) = xs.length ∧ Ex H3 H5 ∧ zs = (((xs.take (i + 1)).filter b).map f).map V.int, fun zs H5 q => ⟨m - 1, by omega, q⟩, ?_⟩
      rintro v H5 ⟨rfl, hx1⟩
      have ex1 := (Option.some.inj ((int_at hi).symm.trans (hx1 _ (ex_l e04 hx)))).symm
      subst ex1
      have hxi : xs.getD i 0 = xs[i] := by rw [List.getD_eq_getElem?_getD, List.getElem?_eq_getElem hi] <;> rfl
      have hmem : xs.getD i 0 ∈ xs := by rw [hxi]; exact List.getElem_mem hi
      have htk : xs.take (i + 1) = xs.take i ++ [xs.getD i 0] := by rw [hxi]; exact (List.take_append_getElem hi).symm
      refine ⟨hw _, ht _ hmem _ e04 _ (Ex.refl _) _ fun H6 e6 => ?_⟩
      cases hb : b (xs.getD i 0) with
      | false =>
        rw [if_neg Bool.false_ne_true]
        refine ⟨by omega, e4.trans e6, ?_⟩
        rw [htk, List.filter_append, List.filter_cons, if_neg (by rw [hb]; decide), List.filter_nil, List.append_nil]
      | true =>
        rw [if_pos rfl]
        refine he _ hmem hb _ (e04.trans e6) _ (Ex.refl _) _ fun H7 e7 => ?_
        have hall : ∀ y ∈ ((xs.take i).filter b).map f, 0 ≤ y ∧ y ≤ 2 ^ 40 := fun y hy => by
          obtain ⟨x, hx2, rfl⟩ := List.mem_map.mp hy
          exact hf x (List.mem_of_mem_take (List.mem_filter.mp hx2).1)
        have hb1 := sum_bd _ _ hall
        have hb2 := hf _ hmem
        have hlen : (((xs.take i).filter b).map f).length ≤ i := by
          rw [List.length_map]
          exact Nat.le_trans (List.length_filter_le _ _) (by rw [List.length_take]; omega)
        have hB : ((((xs.take i).filter b).map f).length : Int) * 2 ^ 40 ≤ 1000 * 2 ^ 40 := by omega
        refine ⟨sz_lt (by rw [List.length_map]; omega), ⟨f _, rfl, ⟨by omega, by omega⟩, ?_⟩, by omega, (e4.trans e6).trans e7, ?_⟩
        · rw [vsum_ints]
          exact ⟨by omega, by omega⟩
        · rw [htk, List.filter_append, List.filter_cons, if_pos hb, List.filter_nil, List.map_append, List.map_append]
          rfl
    · left
      have hin : i = xs.length := by omega
      subst hin
      refine ⟨⟨_, ex_l e04 hx, by rw [hxl]; exact Nat.le_refl _⟩, ?_⟩
      show Q (.int (vsum _)) H'
      rw [vsum_ints, List.take_length]
      exact q H' (e13.trans e4)
/-- any(b(x) for x in xs) -/
theorem ev_anyL {Pt l : Addr} {cm : List (Option Nat)} {own : List Nat} {xs : List Int} (b : Int → Bool) (h : Ev tl σ H (.ref l)) (hx : SqL K H l (xs.map V.int)) (hn : xs.length ≤ 1000) (tab : H Pt = some (TabX Pt))
    (hw : ∀ x, wipe ((captS cm σ).set 0 (some x)) own = captS cm σ) (he : ∀ x ∈ xs, ∀ H1, Ex H H1 → Ev te ((captS cm σ).set 0 (some (.int x))) H1 (.bl (b x))) :
    Ev (tAnyG (tGx Pt (iList K tl) (gName 0) tYes te cm own)) σ H (.bl (xs.any b)) := fun H1 e Q q =>
  h H1 e _ fun H3 e13 => by
    have e03 := e.trans e13
    have hxl : (xs.map V.int).length = xs.length := List.length_map _
    refine ⟨l, rfl, ⟨_, ex_l e03 hx⟩, e03 Pt _ tab, fun i m zs H' => m + i = xs.length ∧ Ex H3 H' ∧ zs = (xs.take i).map fun x => V.bl (b x), ⟨xs.length, by omega, Ex.refl _, rfl⟩, ?_⟩
    rintro i m zs H' ⟨hm, e4, rfl⟩
    have e04 := e03.trans e4
    by_cases hi : i < xs.length
    · right
      refine ⟨⟨_, _, ex_l e04 hx, int_at hi⟩, fun zs H5 => (m - 1) + (i + 1) = xs.length ∧ Ex H3 H5 ∧ zs = (xs.take (i + 1)).map fun x => V.bl (b x), fun zs H5 q => ⟨m - 1, by omega, q⟩, ?_⟩
      rintro v H5 ⟨rfl, hx1⟩
      have ex1 := (Option.some.inj ((int_at hi).symm.trans (hx1 _ (ex_l e04 hx)))).symm
      subst ex1
      have hxi : xs.getD i 0 = xs[i] := by rw [List.getD_eq_getElem?_getD, List.getElem?_eq_getElem hi] <;> rfl
      have hmem : xs.getD i 0 ∈ xs := by rw [hxi]; exact List.getElem_mem hi
      have htk : xs.take (i + 1) = xs.take i ++ [xs.getD i 0] := by rw [hxi]; exact (List.take_append_getElem hi).symm
      refine ⟨hw _, tt_yes ?_⟩
      refine he _ hmem _ e04 _ (Ex.refl _) _ fun H7 e7 => ?_
      have hyes : b (xs.getD i 0) = true → xs.any b = true := fun z => List.any_eq_true.mpr ⟨_, hmem, z⟩
      refine ⟨sz_lt (by rw [List.length_map, List.length_take]; omega), ⟨_, rfl, fun z => ?_⟩, by omega, e4.trans e7, ?_⟩
      · have := hyes z
        rw [← this]
        exact q _ ((e13.trans e4).trans e7)
      · rw [htk, List.map_append]
        rfl
    · left
      have hin : i = xs.length := by omega
      subst hin
      refine ⟨⟨_, ex_l e04 hx, by rw [hxl]; exact Nat.le_refl _⟩, fun hno => ?_⟩
      rw [List.take_length] at hno
      have hr : xs.any b = false := by
        rw [List.any_eq_false]
        intro x hx2 hb
        exact hno _ (List.mem_map.mpr ⟨x, hx2, rfl⟩) (by rw [hb])
      rw [← hr]
      exact q H' (e13.trans e4)
end
end KC
set_option Elab.async false
set_option linter.all false
set_option maxRecDepth 100000
set_option maxHeartbeats 4000000
/-! Objects: methods by the kind of the receiver's class, instances made, attributes. -/
namespace KC
open PySem PySem.Spec PyProof.Rows L2 GX Evl

/-- a method by the kind of its receiver's class: the class of kind i stands at Cl i -/
structure MCal (P : Program) (w : World) (K : PySem.W.Frag) (mg : Str → Option Value) (base : Heap) (Cl : Nat → Addr) (Is : Nat → Prop) (m : Str) (k : Nat) (ps : List Str) (sp : Nat → Sp) : Prop where
  out : ∀ i, Is i → Cls K (Cl i) ∧ ∃ f fd, Meth K (Cl i) m f ∧ Binds K fd ps [] ∧ FnOk P w K mg base CX0 k f fd ps (sp i)
def tMethD (Cl : Nat → Addr) (Is : Nat → Prop) (m : Str) (sp : Nat → Sp) (ta : TE) (t : TA) : TE := fun σ H Q => ta σ H fun x H1 => ∃ i a dx fs, Is i ∧ x = .ref a ∧ H1 a = some (.ins (Cl i) dx fs) ∧ fs.lookup m = none ∧
  t σ H1 fun vs H2 => sp i (x :: (vs ++ [])) H2 Q E0
section
variable {X : Cx} {k : Nat} {Cl : Nat → Addr} {Is : Nat → Prop} {ps : List Str} {sp : Nat → Sp} {m : Str} {pos apos : Pos} {e o : Expr} {es : List Expr} {ta : TE} {t : TA}
theorem pe_methD {pl : Sem Bool} (he : PE X o ta) (M : MCal X.prog X.w X.K X.mg X.base Cl Is m k ps sp) (hr : Room k X.A) (ha : PA X (e :: es) t)
    (hst : starEach (e :: es) X.env = (false, eval e X.env) :: starEach es X.env := by rfl) (hpl : (backTo pos (starEach es X.env)).any (·.1) = false := by rfl)
    (ht : eval (.Call (.Attribute o m apos) (e :: es) [] pos) X.env = (do
      let ov ← eval o X.env
      standAt apos.atName
      let (f, first) ← holding [ov] (getMethod ov m pl)
      callWith pos f first (backTo pos (starEach (e :: es) X.env)) (backToKw pos (keywordEach [] X.env))) := by rfl) :
    PE X (.Call (.Attribute o m apos) (e :: es) [] pos) (tMethD Cl Is m sp ta t) := by
  refine ⟨fun pins s σ H Q I h => ?_⟩
  refine PySem.W.methodCall_KW (pl := pl) (thn (he.run pins s σ H _ I h) fun u s1 ⟨x, H1, I1, rx, i, a, dx, fs, hi, ex, ea, l, q⟩ => ?_) ht
  subst ex
  obtain rfl : u = Value.ref a := rx
  obtain ⟨c, f, fd, hm, hb, F⟩ := M.out i hi
  refine getmeth_ok I1 ea c hm l ?_
  refine PySem.W.callWith_K (first := [.ref a]) (h₀ := X.base) I1.ok.mod.kin hm.kp (thn (ha.run pos pins s1 σ H1 _ I1 q) fun us s2 ⟨vs, H2, I2, r, q2⟩ => ⟨I2.kIn, ?_⟩) hst hpl
  exact run_fn (us := .ref a :: us) (vs := .ref a :: vs) F hr hb .nil pass0 I2 (.cons rfl r) q2
theorem pe_methD0 {pl : Sem Bool} (he : PE X o ta) (M : MCal X.prog X.w X.K X.mg X.base Cl Is m k ps sp) (hr : Room k X.A)
    (ht : eval (.Call (.Attribute o m apos) [] [] pos) X.env = (do
      let ov ← eval o X.env
      standAt apos.atName
      let (f, first) ← holding [ov] (getMethod ov m pl)
      callWith pos f first (backTo pos (starEach [] X.env)) (backToKw pos (keywordEach [] X.env))) := by rfl) :
    PE X (.Call (.Attribute o m apos) [] [] pos) (tMethD Cl Is m sp ta tNil) := by
  refine ⟨fun pins s σ H Q I h => ?_⟩
  refine PySem.W.methodCall_KW (pl := pl) (thn (he.run pins s σ H _ I h) fun u s1 ⟨x, H1, I1, rx, i, a, dx, fs, hi, ex, ea, l, q⟩ => ?_) ht
  subst ex
  obtain rfl : u = Value.ref a := rx
  obtain ⟨c, f, fd, hm, hb, F⟩ := M.out i hi
  refine getmeth_ok I1 ea c hm l ?_
  exact PySem.W.callWith_K0 (first := [.ref a]) I1.kIn hm.kp (run_fn (us := [.ref a]) (vs := [.ref a]) F hr hb .nil pass0 I1 (.cons rfl .nil) q)
end
/-- a class called by its name -/
structure CalM (P : Program) (w : World) (K : PySem.W.Frag) (mg : Str → Option Value) (base : Heap) (nm : Str) (C : Addr) (k : Nat) (ps : List Str) (sp : Sp) : Prop where
  out : ∃ f fd, mg nm = some (.ref C) ∧ Mk K C f ∧ Binds K fd ps [] ∧ FnOk P w K mg base CX0 k f fd ps sp
theorem pe_makeC {X : Cx} {nm : Str} {C : Addr} {k : Nat} {ps : List Str} {sp : Sp} {p pos : Pos} {e : Expr} {es : List Expr} {t : TA} (M : CalM X.prog X.w X.K X.mg X.base nm C k ps sp) (hr : Room (k + 1) X.A) (hg : Gl X nm) (ha : PA X (e :: es) t)
    (hdb : (nm == ("__debug__" : Str)) = false := by decide) (he : starEach (e :: es) X.env = (false, eval e X.env) :: starEach es X.env := by rfl) (hpl : (backTo pos (starEach es X.env)).any (·.1) = false := by rfl) :
    PE X (.Call (.Name nm p) (e :: es) [] pos) (tMake C sp [] E0 t) := by
  obtain ⟨f, fd, h1, h2, h3, h4⟩ := M.out
  exact pe_make h2 h4 hr hg h1 h3 .nil pass0 ha hdb he hpl
/-- xs[i] of a list, the index from 0 -/
def rIxL0 (K : PySem.W.Frag) : R2 := fun x y H Q => ∃ p xs, ∃ (i : Nat), ∃ v, x = .ref p ∧ y = .int (i : Int) ∧ SqL K H p xs ∧ xs[i]? = some v ∧ Q v H
theorem get_list {X : Cx} : PGet X (rIxL0 X.K) := by
  intro pins s σ H x y v u Q I rx ry h
  obtain ⟨p, xs, i, z, rfl, rfl, hq, he, q⟩ := h
  cases rx
  obtain ⟨t, rfl⟩ := ry
  obtain ⟨its, r, pl, hz⟩ := I.list hq
  obtain ⟨w, ew, rw'⟩ := r.get he
  have hn := line63
  have hl := r.length
  have hi := (List.getElem?_eq_some_iff.mp he).1
  refine wpAny_getItem_list pl.isList (by omega) (by omega) (x := w) ?_ ⟨z, H, I, rw', q⟩
  simpa using ew

/-! ### readings -/
section
variable {K : PySem.W.Frag} {σ : L2.St} {H H' : Hp} {ta tb te tx : TE} {v x : V} {D : Ends} {tz : TS} {a C dx : Addr} {fs : List (Str × V)} {f : Str}
theorem ev_fld (ha : Ev ta σ H (.ref a)) (h : H a = some (.ins C dx fs)) (c : Cls K C) (n : NoAttr K C f) (l : fs.lookup f = some v) : Ev (tFld K ta f) σ H v := fun H1 e Q q =>
  ha H1 e _ fun H2 e2 => ⟨a, C, dx, fs, v, rfl, (e.trans e2) a _ h, c, n, l, q H2 e2⟩
theorem s_fld (hv : Ev te σ H v) (ha : Ev ta σ H (.ref a)) (h : H a = some (.ins C dx fs)) (c : Cls K C) (n : NoAttr K C f) (hl : fs.length < 1000) (k : ∀ H1, Ex H H1 → D.nx σ (upd H1 a (.ins C dx (putF f v fs)))) : sFld K ta te f D σ H :=
  hv H (Ex.refl H) _ fun H1 e1 => ha H1 e1 _ fun H2 e2 => ⟨a, C, dx, fs, rfl, (e1.trans e2) a _ h, c, n, hl, k H2 (e1.trans e2)⟩
theorem q_fld (hv : Ev te σ H v) (ha : Ev ta σ H (.ref a)) (h : H a = some (.ins C dx fs)) (c : Cls K C) (n : NoAttr K C f) (hl : fs.length < 1000) (k : ∀ H1, Ex H H1 → tz D σ (upd H1 a (.ins C dx (putF f v fs)))) : tSeq (sFld K ta te f) tz D σ H :=
  s_fld (D := { D with nx := tz D }) hv ha h c n hl k
theorem s_fldL {xs : List V} (hv : EvL te σ H xs) (ha : Ev ta σ H (.ref a)) (h : H a = some (.ins C dx fs)) (c : Cls K C) (n : NoAttr K C f) (hl : fs.length < 1000) (k : ∀ p H1, H p = none → Ex H H1 → H1 p = some (.lst xs) → D.nx σ (upd H1 a (.ins C dx (putF f (.ref p) fs)))) : sFld K ta te f D σ H :=
  hv H (Ex.refl H) _ fun p H1 hp e1 h1 => ha H1 e1 _ fun H2 e2 => ⟨a, C, dx, fs, rfl, (e1.trans e2) a _ h, c, n, hl, k p H2 hp (e1.trans e2) (e2 p _ h1)⟩
theorem q_fldL {xs : List V} (hv : EvL te σ H xs) (ha : Ev ta σ H (.ref a)) (h : H a = some (.ins C dx fs)) (c : Cls K C) (n : NoAttr K C f) (hl : fs.length < 1000) (k : ∀ p H1, H p = none → Ex H H1 → H1 p = some (.lst xs) → tz D σ (upd H1 a (.ins C dx (putF f (.ref p) fs)))) : tSeq (sFld K ta te f) tz D σ H :=
  s_fldL (D := { D with nx := tz D }) hv ha h c n hl k
theorem ev_meth {Cl : Nat → Addr} {Is : Nat → Prop} {m : Str} {sp : Nat → Sp} {t : TA} {i : Nat} {vs : List V} (ha : Ev ta σ H (.ref a)) (hi : Is i) (h : H a = some (.ins (Cl i) dx fs)) (l : fs.lookup m = none) (ht : EvA t σ H vs) (hs : SpV (sp i) (.ref a :: (vs ++ [])) H v) : Ev (tMethD Cl Is m sp ta t) σ H v := fun H1 e Q q =>
  ha H1 e _ fun H2 e2 => ⟨i, a, dx, fs, hi, rfl, (e.trans e2) a _ h, l, ht H2 (e.trans e2) _ fun H3 e3 => hs H3 ((e.trans e2).trans e3) Q (fun H4 e4 => q H4 ((e2.trans e3).trans e4)) E0⟩
theorem cutV_to (xs : List V) (n : Nat) : cutV xs none (some (n : Int)) = xs.take n := by
  unfold cutV
  rw [HT.sIx_none, HT.sIx_nat, List.drop_zero, Nat.sub_zero]
  by_cases h : n ≤ xs.length
  · rw [Nat.min_eq_left h]
  · rw [Nat.min_eq_right (by omega), List.take_of_length_le (Nat.le_refl _), List.take_of_length_le (by omega)]
theorem s_augS {to ti : TE} {l : Addr} {xs : List V} {s : Nat} {p q : Int} {g : Int → Int → Int} (hl : H l = some (.lst xs)) (ho : Ev to σ H (.ref l)) (hi : Ev ti σ H (.int (s : Int))) (hx : xs[s]? = some (.int p)) (he : Ev te σ H (.int q)) (k : ∀ H1, Ex H H1 → D.nx σ (upd H1 l (.lst (xs.set s (.int (g p q)))))) :
    tAugS to ti te (rIxL0 K) (ipI g) rSetL D σ H :=
  ho H (Ex.refl H) _ fun H1 e1 => hi H1 e1 _ fun H2 e2 => ⟨l, xs, s, _, rfl, rfl, sq_of ((e1.trans e2) l _ hl), hx, he H2 (e1.trans e2) _ fun H3 e3 => ⟨p, q, rfl, rfl, l, xs, (s : Int), s, rfl, rfl, ((e1.trans e2).trans e3) l _ hl, ixN_nat ((List.getElem?_eq_some_iff.mp hx).1), k H3 ((e1.trans e2).trans e3)⟩⟩
theorem q_augS {to ti : TE} {l : Addr} {xs : List V} {s : Nat} {p q : Int} {g : Int → Int → Int} (hl : H l = some (.lst xs)) (ho : Ev to σ H (.ref l)) (hi : Ev ti σ H (.int (s : Int))) (hx : xs[s]? = some (.int p)) (he : Ev te σ H (.int q)) (k : ∀ H1, Ex H H1 → tz D σ (upd H1 l (.lst (xs.set s (.int (g p q)))))) :
    tSeq (tAugS to ti te (rIxL0 K) (ipI g) rSetL) tz D σ H := s_augS (D := { D with nx := tz D }) hl ho hi hx he k
/-- it gives something that is so -/
def EvP (te : TE) (σ : L2.St) (H : Hp) (R : V → Hp → Prop) : Prop := ∀ H1, Ex H H1 → ∀ Q : VK, (∀ v H2, Ex H1 H2 → R v H2 → Q v H2) → te σ H1 Q
theorem s_retP {R : V → Hp → Prop} (h : EvP te σ H R) (k : ∀ v H1, Ex H H1 → R v H1 → D.rt v H1) : tRet te D σ H := h H (Ex.refl H) _ k
theorem s_asgP {i : Nat} {R : V → Hp → Prop} (h : EvP te σ H R) (k : ∀ v H1, Ex H H1 → R v H1 → D.nx (σ.set i (some v)) H1) : tAsg te (gName i) D σ H := h H (Ex.refl H) _ k
theorem q_asgP {i : Nat} {R : V → Hp → Prop} (h : EvP te σ H R) (k : ∀ v H1, Ex H H1 → R v H1 → tz D (σ.set i (some v)) H1) : tSeq (tAsg te (gName i)) tz D σ H := h H (Ex.refl H) _ k
theorem q_fldP {R : V → Hp → Prop} (hv : EvP te σ H R) (ha : Ev ta σ H (.ref a)) (h : H a = some (.ins C dx fs)) (c : Cls K C) (n : NoAttr K C f) (hl : fs.length < 1000) (k : ∀ v H1 H2, Ex H H1 → R v H1 → Ex H1 H2 → tz D σ (upd H2 a (.ins C dx (putF f v fs)))) : tSeq (sFld K ta te f) tz D σ H :=
  hv H (Ex.refl H) _ fun v H1 e1 r => ha H1 e1 _ fun H2 e2 => ⟨a, C, dx, fs, rfl, (e1.trans e2) a _ h, c, n, hl, k v H1 H2 e1 r e2⟩
/-- [e for x in range(n)] whose items are new objects -/
theorem ep_lcR1 {ta : TA} {j n : Nat} {vs : List Nat} {R : V → Hp → Prop} (h : EvA ta σ H [.int (n : Int)]) (hn : n ≤ 40000) (hw : ∀ x, wipe ((wipe σ vs).set j (some x)) vs = wipe σ vs) (Pv : Hp → Addr → Nat → Hp → Prop)
    (h0 : ∀ H1 Dl, Ex H H1 → H1 Dl = none → Pv H1 Dl 0 (upd H1 Dl (.lst [])))
    (hs : ∀ H1 Dl i H', Ex H H1 → H1 Dl = none → i < n → Pv H1 Dl i H' → te ((wipe σ vs).set j (some (.int (i : Int)))) H' fun y H4 => ∃ acc, H4 Dl = some (.lst acc) ∧ acc.length < sizeLine ∧ Pv H1 Dl (i + 1) (upd H4 Dl (.lst (acc ++ [y]))))
    (hd : ∀ H1 Dl H', Ex H H1 → H1 Dl = none → Pv H1 Dl n H' → Ex H1 H' ∧ R (.ref Dl) H') : EvP (tLc (iRng1 ta) (gName j) tYes te vs) σ H R := fun H0 e0 Q q =>
  h H0 e0 _ fun H1 e1 => ⟨(n : Int), rfl, by omega, by omega, fun Dl hD => lc_range (lo := 0) (n := n) (Pv H1 Dl) (h0 H1 Dl (e0.trans e1) hD) (fun i H' hi p => by
    have e2 : (0 : Int) + (i : Int) = (i : Int) := Int.zero_add _
    show wipe ((wipe σ vs).set j (some (.int ((0 : Int) + (i : Int))))) vs = wipe σ vs ∧ tYes ((wipe σ vs).set j (some (.int ((0 : Int) + (i : Int))))) H' fun b H3 => _
    rw [e2]
    exact ⟨hw _, tt_yes (hs H1 Dl i H' (e0.trans e1) hD hi p)⟩) fun H' p => by
      obtain ⟨e3, r⟩ := hd H1 Dl H' (e0.trans e1) hD p
      exact q _ H' (e1.trans e3) r⟩
theorem ev_methP {Cl : Nat → Addr} {Is : Nat → Prop} {m : Str} {sp : Nat → Sp} {t : TA} {i : Nat} {vs : List V} {R : V → Hp → Prop} (ha : Ev ta σ H (.ref a)) (hi : Is i) (h : H a = some (.ins (Cl i) dx fs)) (l : fs.lookup m = none) (ht : EvA t σ H vs)
    (hs : ∀ H1, Ex H H1 → ∀ Q : VK, (∀ v H2, Ex H1 H2 → R v H2 → Q v H2) → sp i (.ref a :: (vs ++ [])) H1 Q E0) : EvP (tMethD Cl Is m sp ta t) σ H R := fun H1 e Q q =>
  ha H1 e _ fun H2 e2 => ⟨i, a, dx, fs, hi, rfl, (e.trans e2) a _ h, l, ht H2 (e.trans e2) _ fun H3 e3 => hs H3 ((e.trans e2).trans e3) Q (fun v H4 e4 r => q v H4 ((e2.trans e3).trans e4) r)⟩
/-- C(..) -/
theorem ev_make {sp : Sp} {t : TA} {vs : List V} {R : V → Hp → Prop} (ht : EvA t σ H vs)
    (hs : ∀ H1 x dx, Ex H H1 → H1 x = none → H1 dx = none → dx ≠ x → ∀ Q : VK, (∀ H2, Ex H1 H2 → R (.ref x) H2 → Q .non H2) → sp (.ref x :: (vs ++ [])) (upd (upd H1 dx (.own x)) x (.ins C dx [])) Q E0) : EvP (tMake C sp [] E0 t) σ H R := fun H1 e Q q =>
  ht H1 e _ fun H2 e2 x dx nx nd ne => hs H2 x dx (e.trans e2) nx nd ne _ fun H3 e3 r => ⟨rfl, q _ H3 (e2.trans e3) r⟩
theorem made_ex {x : Addr} (nx : H x = none) (nd : H dx = none) : Ex H (upd (upd H dx (.own x)) x (.ins C dx [])) := fun b o e => by
  rw [upd_ne (ne_of_none e nx), upd_ne (ne_of_none e nd)]
  exact e
/-- the heap behind a change that touches only what stands at F -/
def Kp (F : Addr → Prop) (H H' : Hp) : Prop := ∀ b o, H b = some o → ¬ F b → H' b = some o
theorem Kp.of_ex {F : Addr → Prop} (e : Ex H H') : Kp F H H' := fun b o h _ => e b o h
theorem Kp.trans {F : Addr → Prop} {H1 H2 H3 : Hp} (a : Kp F H1 H2) (b : Kp F H2 H3) : Kp F H1 H3 := fun x o h n => b x o (a x o h n) n
theorem Kp.put {F : Addr → Prop} {p : Addr} {o : HO} (a : Kp F H H') (h : F p) : Kp F H (upd H' p o) := fun b u e n => by
  have hb : b ≠ p := fun z => by
    subst z
    exact n h
  rw [upd_ne hb]
  exact a b u e n
theorem Kp.mono {F G : Addr → Prop} (a : Kp F H H') (h : ∀ b o, F b → H b = some o → G b) : Kp G H H' := fun b o e n => a b o e fun f => n (h b o f e)
theorem Kp.ex {F : Addr → Prop} (a : Kp F H H') (h : ∀ b, F b → H b = none) : Ex H H' := fun b o e => a b o e fun f => by
  rw [h b f] at e
  cases e
/-- for i, x in enumerate(xs) -/
theorem s_forEn {tu : TS} {xs : List V} {j k : Nat} (h : Ev ta σ H (.ref a)) (hx : SqL K H a xs) (Pv : Nat → L2.St → Hp → Prop) (h0 : ∀ H1, Ex H H1 → Pv 0 σ H1) (hl : ∀ i σ' H', Pv i σ' H' → SqL K H' a xs)
    (hs : ∀ i x σ' H' H2, xs[i]? = some x → Pv i σ' H' → Ex H' H2 → tu { D with nx := Pv (i + 1), ct := Pv (i + 1), bk := D.nx } ((σ'.set j (some (.int (i : Int)))).set k (some x)) H2) (hd : ∀ σ' H', Pv xs.length σ' H' → D.nx σ' H') :
    tFor (iEnum K (tCons ta tNil)) (gTup K 2 (gCons (gName j) (gCons (gName k) gNil))) tu D σ H :=
  h H (Ex.refl H) _ fun H1 e => ⟨a, xs, rfl, ex_l e hx, fun i m σ' H' => m + i = xs.length ∧ Pv i σ' H', ⟨xs.length, by omega, h0 H1 e⟩, fun i m σ' H' ⟨hm, p⟩ => by
    by_cases hi : i < xs.length
    · right
      obtain ⟨v, hv⟩ : ∃ v, xs[i]? = some v := ⟨_, List.getElem?_eq_getElem hi⟩
      refine ⟨⟨xs, v, hl i σ' H' p, hv⟩, Pv (i + 1), fun σ2 H2 q => ⟨m - 1, by omega, by omega, q⟩, ?_⟩
      rintro x H5 ⟨t, v2, rfl, ht, rfl, hv2⟩
      have ev := Option.some.inj (hv.symm.trans (hv2 _ (hl i σ' H' p)))
      subst ev
      exact ⟨t, _, rfl, .inl (.inl upd_same), rfl, _, _, rfl, _, _, rfl, rfl, hs i v σ' H' _ hv p (Ex.new ht)⟩
    · left
      have e2 : i = xs.length := by omega
      subst e2
      exact ⟨⟨xs, hl _ σ' H' p, by omega⟩, hd σ' H' p⟩⟩
theorem q_forEn {tu : TS} {xs : List V} {j k : Nat} (h : Ev ta σ H (.ref a)) (hx : SqL K H a xs) (Pv : Nat → L2.St → Hp → Prop) (h0 : ∀ H1, Ex H H1 → Pv 0 σ H1) (hl : ∀ i σ' H', Pv i σ' H' → SqL K H' a xs)
    (hs : ∀ i x σ' H' H2, xs[i]? = some x → Pv i σ' H' → Ex H' H2 → tu { D with nx := Pv (i + 1), ct := Pv (i + 1), bk := tz D } ((σ'.set j (some (.int (i : Int)))).set k (some x)) H2) (hd : ∀ σ' H', Pv xs.length σ' H' → tz D σ' H') :
    tSeq (tFor (iEnum K (tCons ta tNil)) (gTup K 2 (gCons (gName j) (gCons (gName k) gNil))) tu) tz D σ H := s_forEn (D := { D with nx := tz D }) h hx Pv h0 hl hs hd
/-- if t: xs[j] = e -/
theorem q_ifSetL {t : TT} {b : Bool} {l : Addr} {xs ys : List V} {j : Nat} (hl : H l = some (.lst xs)) (h : EvT t σ H b) (he : b = true → Ev te σ H v) (ho : b = true → Ev ta σ H (.ref l)) (hi : b = true → Ev tb σ H (.int (j : Int))) (hj : b = true → j < xs.length) (hy : ys = if b = true then xs.set j v else xs)
    (k : ∀ H1, Kp (fun b => b = l) H H1 → (∀ x, H1 x = none → H x = none) → H1 l = some (.lst ys) → tz D σ H1) : tSeq (tIfS t (tAsg te (gSub ta tb rSetL)) tNext) tz D σ H := by
  refine q_when h (fun hb H1 e1 => ?_) (fun hb H1 e1 => ?_)
  · refine s_setL (e1 _ _ hl) ((he hb).mono e1) ((ho hb).mono e1) ((hi hb).mono e1) (hj hb) fun H2 e2 => k _ (Kp.put (Kp.of_ex (e1.trans e2)) rfl) (fun x hx => ?_) (by rw [upd_same, hy, if_pos hb])
    by_cases z : x = l
    · rw [z, upd_same] at hx
      cases hx
    · rw [upd_ne z] at hx
      exact fresh_back (e1.trans e2) hx
  · exact k H1 (Kp.of_ex e1) (fun x hx => fresh_back e1 hx) (by rw [hy, if_neg (by rw [hb]; decide)]; exact e1 _ _ hl)
theorem putF_putF {f : Str} {u v : V} : ∀ fs : List (Str × V), putF f v (putF f u fs) = putF f v fs
  | [] => by
    show (if f = f then [(f, v)] else (f, u) :: putF f v []) = [(f, v)]
    rw [if_pos rfl]
  | (g, y) :: r => by
    by_cases h : g = f
    · show putF f v (if g = f then (g, u) :: r else _) = (if g = f then (g, v) :: r else _)
      rw [if_pos h, if_pos h]
      show (if g = f then (g, v) :: r else _) = _
      rw [if_pos h]
    · show putF f v (if g = f then (g, u) :: r else (g, y) :: putF f u r) = (if g = f then (g, v) :: r else (g, y) :: putF f v r)
      rw [if_neg h, if_neg h]
      show (if g = f then (g, v) :: putF f u r else (g, y) :: putF f v (putF f u r)) = _
      rw [if_neg h, putF_putF r]
end
end KC
set_option Elab.async false
set_option linter.all false
set_option maxRecDepth 100000
set_option maxHeartbeats 4000000
/-! Dicts whose keys are tuples of ints and texts, made here or written in the text. -/
namespace KC
open PySem PySem.Spec PyProof.Rows L2 GX Evl
def DXp (P : Program) (w : World) (a : Addr) (xs : List (List Key × Addr × Value)) (o : Obj) (h : Heap) : Prop := xs.length ≤ sizeLine ∧ (a == sysModules) = false ∧
  ∃ es ep, h.get? a = some o ∧ o.ExactDict ∧ o.data = .dict es ep ∧ es.toList = xs.map (entryOfKey (tupleKind (mixKind P w))) ∧ (xs.map (·.1)).Nodup
abbrev DX (P : Program) (w : World) (a : Addr) (xs : List (List Key × Addr × Value)) (o : Obj) : HO := .ext (DXp P w a xs o)
abbrev KX (K : PySem.W.Frag) (H : Hp) : List (List Key × V) → List (List Key × Addr × Value) → Prop := Paired fun p q => p.1 = q.1 ∧ SqT K H q.2.1 (p.1.map kV) ∧ RelV p.2 q.2.2
def DAt (P : Program) (w : World) (K : PySem.W.Frag) (H : Hp) (a : Addr) (kvs : List (List Key × V)) : Prop := ∃ xs o, H a = some (DX P w a xs o) ∧ KX K H kvs xs
theorem KX.val {K : PySem.W.Frag} {H : Hp} {kvs : List (List Key × V)} {xs : List (List Key × Addr × Value)} (r : KX K H kvs xs) (k : List Key) : RelO (valV kvs k) ((atKey xs k).map (·.2)) := by
  induction r with
  | nil => exact True.intro
  | @cons p q ps qs h t ih =>
    obtain ⟨h1, _, h2⟩ := h
    by_cases e : p.1 = k
    · have e' : q.1 = k := h1.symm.trans e
      have b : atKey (q :: qs) k = some q.2 := by simp [atKey, List.find?_cons, e']
      rw [valV_pos e, b]; exact h2
    · have e' : ¬ q.1 = k := fun z => e (h1.trans z)
      have b : atKey (q :: qs) k = atKey qs k := by simp [atKey, List.find?_cons, e']
      rw [valV_neg e, b]; exact ih
theorem KX.repl {K : PySem.W.Frag} {H : Hp} {kvs : List (List Key × V)} {xs : List (List Key × Addr × Value)} (r : KX K H kvs xs) (k : List Key) {y : V} {u : Value} (ry : RelV y u) :
    KX K H (kvs.map fun kv => if kv.1 = k then (kv.1, y) else kv) (xs.map (putAt k u)) := by
  induction r with
  | nil => exact .nil
  | @cons p q ps qs h t ih =>
    rw [List.map_cons, List.map_cons]
    refine .cons ?_ ih
    obtain ⟨h1, h2, h3⟩ := h
    unfold putAt
    by_cases e : p.1 = k
    · rw [if_pos e, if_pos (h1.symm.trans e)]; exact ⟨h1, h2, ry⟩
    · rw [if_neg e, if_neg (fun z => e (h1.trans z))]; exact ⟨h1, h2, h3⟩
theorem KX.put {K : PySem.W.Frag} {H : Hp} {kvs : List (List Key × V)} {xs : List (List Key × Addr × Value)} (r : KX K H kvs xs) (k : List Key) {b : Addr} {y : V} {u : Value} (hb : SqT K H b (k.map kV)) (ry : RelV y u) :
    KX K H (putK kvs k y) (storedH xs k b u) := by
  have e : (kvs.any fun kv => decide (kv.1 = k)) = (atKey xs k).isSome := by
    rw [valV_any, (r.val k).isSome_eq, Option.isSome_map]
  unfold putK storedH
  rw [e]
  by_cases q : (atKey xs k).isSome = true
  · rw [if_pos q, if_pos q]; exact r.repl k ry
  · rw [if_neg q, if_neg q]; exact Paired.snoc r ⟨rfl, hb, ry⟩
theorem KX.keeps {K : PySem.W.Frag} {H H' : Hp} {kvs : List (List Key × V)} {xs : List (List Key × Addr × Value)} (r : KX K H kvs xs) (ht : ∀ b ys, SqT K H b ys → SqT K H' b ys) : KX K H' kvs xs :=
  Paired.mapP r fun _ _ z => ⟨z.1, ht _ _ z.2.1, z.2.2⟩
theorem DAt.ext {P : Program} {w : World} {K : PySem.W.Frag} {H H' : Hp} {a : Addr} {kvs : List (List Key × V)} (e : Ex H H') (h : DAt P w K H a kvs) : DAt P w K H' a kvs := by
  obtain ⟨xs, o, h1, h2⟩ := h
  exact ⟨xs, o, e _ _ h1, h2.keeps fun b ys z => ex_t e z⟩
theorem sqt_ext {K : PySem.W.Frag} {H : Hp} {a b : Addr} {ys : List V} {φ : Heap → Prop} {o : HO} (h : SqT K H b ys) (e : H a = some (.ext φ)) : SqT K (upd H a o) b ys := by
  rcases h with (h | ⟨ob, h⟩) | h
  · exact .inl (.inl (by rw [upd_ne (fun z => by rw [z, e] at h; cases h)]; exact h))
  · exact .inl (.inr ⟨ob, by rw [upd_ne (fun z => by rw [z, e] at h; cases h)]; exact h⟩)
  · exact .inr h
section
variable {X : Cx} {pins : List (Addr × Obj)} {σ : L2.St} {H : Hp} {s : Shared} {a b : Addr} {kvs : List (List Key × V)} {xs : List (List Key × Addr × Value)} {k : List Key} {v : V} {r : Value} {A : Around} {E : Value → Shared → Prop}
theorem key_ofX (I : Inv X pins σ H s) (h : SqT X.K H b (k.map kV)) : (tupleKind (mixKind X.prog X.w)).is s.heap k b := by
  obtain ⟨its, r, ⟨o, h1, h2, n, h3⟩, _⟩ := I.tuple h
  exact ⟨o, its.toArray, n, h1, h2, h3, by simpa using items_are r⟩
theorem dx_heap {o : Obj} (I : Inv X pins σ H s) (e : H a = some (DX X.prog X.w a xs o)) (r : KX X.K H kvs xs) : xs.length ≤ sizeLine ∧ (a == sysModules) = false ∧ s.heap.DictOfH (tupleKind (mixKind X.prog X.w)) a xs := by
  obtain ⟨z, y, es, ep, h1, h2, h3, h4, h5⟩ := (show DXp X.prog X.w a xs o s.heap from (show ObjOk X.prog X.w H s.heap a (DX X.prog X.w a xs o) from I.hok a _ e).1)
  refine ⟨z, y, o, es, ep, h1, h2, h3, h4, fun x hx => ?_, h5⟩
  have all : ∀ {l : List (List Key × V)} {m : List (List Key × Addr × Value)}, KX X.K H l m → ∀ x ∈ m, (tupleKind (mixKind X.prog X.w)).is s.heap x.1 x.2.1 := by
    intro l m q
    induction q with
    | nil => intro x hx; exact nomatch hx
    | @cons p q ps qs hq t ih =>
      intro x hx
      rcases List.mem_cons.mp hx with e | hx
      · subst e
        exact key_ofX I (by rw [← hq.1]; exact hq.2.1)
      · exact ih x hx
  exact all r x hx
theorem dx_ok {P : Program} {w : World} {o : Obj} {H' : Hp} {h' : Heap} (h : DXp P w a xs o h') : ObjOk P w H' h' a (DX P w a xs o) := by
  obtain ⟨z, y, es, ep, h1, h2⟩ := id h
  refine ⟨h, ⟨o, h1⟩, fun g1 g2 ⟨z, y, es, ep, k1, k2⟩ st => ⟨z, y, es, ep, st o k1, k2⟩⟩
theorem dx_getItem {Q : Value → Shared → Prop} (hu : A.units + 1 < cLine) (I : Inv X pins σ H s) (g : DAt X.prog X.w X.K H a kvs) (hb : SqT X.K H b (k.map kV)) (l : valV kvs k = some v) (h : ∀ w' s', Inv X pins σ H s' → RelV v w' → Q w' s') :
    wpAny (model X.prog X.w) A (getItem (.ref a) (.ref b)) Q E s := by
  obtain ⟨xs, o, e, rel⟩ := g
  obtain ⟨z, hd, dd⟩ := dx_heap I e rel
  obtain ⟨w', hw, rw'⟩ := RelO.some_of (v := v) (o := (atKey xs k).map (·.2)) (by rw [← l]; exact rel.val k)
  obtain ⟨p, hp, hp2⟩ := Option.map_eq_some_iff.mp hw
  refine wpAny_getItem_heap (tupleKind_room_in1 hu) (key_ofX I hb) dd hp ?_
  rw [hp2]
  exact h w' _ (I.tok _) rw'
theorem dx_notIn {Q : Value → Shared → Prop} (hu : A.units + 1 < cLine) (I : Inv X pins σ H s) (g : DAt X.prog X.w X.K H a kvs) (hb : SqT X.K H b (k.map kV)) (h : ∀ s', Inv X pins σ H s' → Q (.bool (!(valV kvs k).isSome)) s') :
    wpAny (model X.prog X.w) A (compareOp .NotIn (.ref b) (.ref a)) Q E s := by
  obtain ⟨xs, o, e, rel⟩ := g
  obtain ⟨z, hd, dd⟩ := dx_heap I e rel
  refine wpAny_notIn_heap (tupleKind_room_in1 hu) (key_ofX I hb) hd dd ?_
  have q := (rel.val k).isSome_eq
  rw [Option.isSome_map] at q
  rw [← q]
  exact h _ (I.tok _)
theorem dx_in {Q : Value → Shared → Prop} (hu : A.units + 1 < cLine) (I : Inv X pins σ H s) (g : DAt X.prog X.w X.K H a kvs) (hb : SqT X.K H b (k.map kV)) (h : ∀ s', Inv X pins σ H s' → Q (.bool (valV kvs k).isSome) s') :
    wpAny (model X.prog X.w) A (compareOp .In (.ref b) (.ref a)) Q E s := by
  obtain ⟨xs, o, e, rel⟩ := g
  obtain ⟨z, hd, dd⟩ := dx_heap I e rel
  refine wpAny_in_heap (tupleKind_room_in1 hu) (key_ofX I hb) hd dd ?_
  have q := (rel.val k).isSome_eq
  rw [Option.isSome_map] at q
  rw [← q]
  exact h _ (I.tok _)
theorem dx_setItem {Q : Unit → Shared → Prop} (hu : A.units + 1 < cLine) (I : Inv X pins σ H s) (g : DAt X.prog X.w X.K H a kvs) (hb : SqT X.K H b (k.map kV)) (hl : kvs.length < sizeLine) (rv : RelV v r)
    (h : ∀ H' s', DAt X.prog X.w X.K H' a (putK kvs k v) → (∀ c, c ≠ a → H' c = H c) → Inv X pins σ H' s' → Q () s') : wpAny (model X.prog X.w) A (setItem (.ref a) (.ref b) r) Q E s := by
  obtain ⟨xs, o, e, rel⟩ := g
  obtain ⟨z, hd, dd⟩ := dx_heap I e rel
  have hz : xs.length ≤ sizeLine := z
  have hl2 := Paired.length rel
  refine wpAny_setItem_heap (hsz := hz) (tupleKind_room_in1 hu) (key_ofX I hb) dd fun h' dd' hs => ?_
  obtain ⟨q, es, ep, hq, h2, h3, h4, _, h5⟩ := dd'
  have rel2 := rel.put k hb rv
  have hl3 : (storedH xs k b r).length ≤ sizeLine := by
    have := Paired.length rel2
    have := length_putK kvs k v
    omega
  refine h (upd H a (DX X.prog X.w a (storedH xs k b r) q)) _ ⟨_, _, upd_same, rel2.keeps fun c ys ec => sqt_ext ec e⟩ (fun c hc => upd_ne hc) ?_
  exact d_write I (by rw [e]; exact True.intro) hs ⟨q, hq⟩ (dx_ok ⟨hl3, hd, es, ep, hq, h2, h3, h4, h5⟩)
end
/-! ### readings and rules -/
def newD : Obj := { cls := .type "dict", data := .dict #[] }
def tDNewX (P : Program) (w : World) : TE := fun _ H Q => ∀ p, H p = none → Q (.ref p) (upd H p (DX P w p [] newD))
def tDGetX (P : Program) (w : World) (K : PySem.W.Frag) (td ty : TE) : TE := fun σ H Q => td σ H fun x H1 => ty σ H1 fun y H2 => ∃ a kvs b k v, x = .ref a ∧ y = .ref b ∧ DAt P w K H2 a kvs ∧ SqT K H2 b (k.map kV) ∧ valV kvs k = some v ∧ Q v H2
def tDNotInX (P : Program) (w : World) (K : PySem.W.Frag) (ty td : TE) : TE := fun σ H Q => ty σ H fun y H1 => td σ H1 fun x H2 => ∃ a kvs b k, x = .ref a ∧ y = .ref b ∧ DAt P w K H2 a kvs ∧ SqT K H2 b (k.map kV) ∧ Q (.bl (!(valV kvs k).isSome)) H2
def tDInX (P : Program) (w : World) (K : PySem.W.Frag) (ty td : TE) : TE := fun σ H Q => ty σ H fun y H1 => td σ H1 fun x H2 => ∃ a kvs b k, x = .ref a ∧ y = .ref b ∧ DAt P w K H2 a kvs ∧ SqT K H2 b (k.map kV) ∧ Q (.bl (valV kvs k).isSome) H2
def sDPutX (P : Program) (w : World) (K : PySem.W.Frag) (td ty tv : TE) : TS := fun D σ H => tv σ H fun v H1 => td σ H1 fun x H2 => ty σ H2 fun y H3 => ∃ a kvs b k, x = .ref a ∧ y = .ref b ∧ DAt P w K H3 a kvs ∧ SqT K H3 b (k.map kV) ∧ kvs.length < sizeLine ∧
  ∀ H4, DAt P w K H4 a (putK kvs k v) → (∀ c, c ≠ a → H4 c = H3 c) → D.nx σ H4
section
variable {X : Cx} {P : Program} {w : World} {K : PySem.W.Frag} {o i value : Expr} {pos pos' : Pos} {td ty tv : TE}
theorem pe_dnewX (hX : X.prog = P ∧ X.w = w ∧ X.K = K) : PE X (.Dict [] [] pos) (tDNewX P w) := by
  obtain ⟨rfl, rfl, rfl⟩ := hX
  refine ⟨fun pins s σ H Q I h => wpAny_Dict_empty ⟨.ref s.heap.objs.size, _, I.laid (a := s.heap.objs.size) (o := DX X.prog X.w s.heap.objs.size [] newD) (t' := s.toks) (fun _ _ q => Heap.get?_push_of_some _ q) (Nat.le_refl _) (dx_ok ?_), rfl, h _ (I.hok.fresh (Nat.le_refl _))⟩⟩
  exact ⟨Nat.zero_le _, beq_eq_false_iff_ne.mpr (Ne.symm (Nat.ne_of_lt I.big)), #[], 0, Heap.get?_push_size _ rfl, ⟨rfl, rfl, rfl⟩, rfl, rfl, List.nodup_nil⟩
theorem dx_typeIs {pins : List (Addr × Obj)} {σ : L2.St} {H : Hp} {s : Shared} {a : Addr} {kvs : List (List Key × V)} (I : Inv X pins σ H s) (g : DAt X.prog X.w X.K H a kvs) : s.TypeIs (.ref a) "dict" := by
  obtain ⟨xs, o, e, rel⟩ := g
  obtain ⟨_, _, dd⟩ := dx_heap I e rel
  exact dd.typeIs
theorem pe_dgx (hX : X.prog = P ∧ X.w = w ∧ X.K = K) (hu : X.A.units + 1 < cLine) (ho : PE X o td) (hi : PE X i ty) (hs : NoSl i) : PE X (.Subscript o i pos) (tDGetX P w K td ty) := by
  obtain ⟨rfl, rfl, rfl⟩ := hX
  refine ⟨fun pins s σ H Q I h => ?_⟩
  refine subD_of PySem.F.slot_dict_getitem.lookup hs (thn (ho.run pins s σ H _ I h) fun u s1 ⟨x, H1, I1, rx, q1⟩ => thn (hi.run pins s1 σ H1 _ I1 q1) fun iv s2 ⟨y, H2, I2, ry, a, kvs, b, k, v, ex, ey, g, hb, l, q2⟩ => ?_)
  subst ex ey
  obtain rfl : u = Value.ref a := rx
  obtain rfl : iv = Value.ref b := ry
  exact ⟨dx_typeIs I2 g, dx_getItem hu I2 g hb l fun w' s3 I3 rw' => ⟨v, H2, I3, rw', q2⟩⟩
theorem pc_dnotinX (hX : X.prog = P ∧ X.w = w ∧ X.K = K) (hu : X.A.units + 1 < cLine) (hi : PE X i ty) (ho : PE X o td) : PC X .NotIn i o (tDNotInX P w K ty td) := by
  obtain ⟨rfl, rfl, rfl⟩ := hX
  refine ⟨fun pins s σ H Q I h => ?_⟩
  refine thn (hi.run pins s σ H _ I h) fun iv s1 ⟨y, H1, I1, ry, q1⟩ => thn (ho.run pins s1 σ H1 _ I1 q1) fun u s2 ⟨x, H2, I2, rx, a, kvs, b, k, ex, ey, g, hb, q2⟩ => ?_
  subst ex ey
  obtain rfl : u = Value.ref a := rx
  obtain rfl : iv = Value.ref b := ry
  exact dx_notIn hu I2 g hb fun s3 I3 => ⟨.bl _, H2, I3, rfl, q2⟩
theorem pc_dinX (hX : X.prog = P ∧ X.w = w ∧ X.K = K) (hu : X.A.units + 1 < cLine) (hi : PE X i ty) (ho : PE X o td) : PC X .In i o (tDInX P w K ty td) := by
  obtain ⟨rfl, rfl, rfl⟩ := hX
  refine ⟨fun pins s σ H Q I h => ?_⟩
  refine thn (hi.run pins s σ H _ I h) fun iv s1 ⟨y, H1, I1, ry, q1⟩ => thn (ho.run pins s1 σ H1 _ I1 q1) fun u s2 ⟨x, H2, I2, rx, a, kvs, b, k, ex, ey, g, hb, q2⟩ => ?_
  subst ex ey
  obtain rfl : u = Value.ref a := rx
  obtain rfl : iv = Value.ref b := ry
  exact dx_in hu I2 g hb fun s3 I3 => ⟨.bl _, H2, I3, rfl, q2⟩
theorem ps_dputX (hX : X.prog = P ∧ X.w = w ∧ X.K = K) (hu : X.A.units + 1 < cLine) (ho : PE X o td) (hi : PE X i ty) (hv : PE X value tv) (hs : swapsWith value (some (.Subscript o i pos')) pos.line X.env = pure false) :
    PS X (.Assign [.Subscript o i pos'] value pos) (sDPutX P w K td ty tv) := by
  obtain ⟨rfl, rfl, rfl⟩ := hX
  refine ⟨fun pins s σ H D I h => ?_⟩
  refine wpAny_Assign_Subscript (thn (hv.run pins s σ H _ I h) fun r s1 ⟨v, H1, I1, rv, q1⟩ => thn (ho.run pins s1 σ H1 _ I1 q1) fun u s2 ⟨x, H2, I2, rx, q2⟩ => thn (hi.run pins s2 σ H2 _ I2 q2) fun iv s3 ⟨y, H3, I3, ry, a, kvs, b, k, ex, ey, g, hb, hl, q3⟩ => ?_) hs
  subst ex ey
  obtain rfl : u = Value.ref a := rx
  obtain rfl : iv = Value.ref b := ry
  exact dx_setItem hu I3 g hb hl rv fun H4 s4 d4 k4 I4 => ⟨σ, H4, I4, q3 H4 d4 k4⟩
end
/-- the key tuples of a dict, in order -/
def IsKeysX (K : PySem.W.Frag) (H : Hp) (kvs : List (List Key × V)) (bs : List Addr) : Prop := Paired (fun p b => SqT K H b (p.1.map kV)) kvs bs
theorem isKeysX_of {K : PySem.W.Frag} {H : Hp} {kvs : List (List Key × V)} {xs : List (List Key × Addr × Value)} (r : KX K H kvs xs) : IsKeysX K H kvs (xs.map fun x => x.2.1) := by
  unfold IsKeysX
  induction r with
  | nil => exact Paired.nil
  | cons h t ih => exact Paired.cons h.2.1 ih
section
variable {X : Cx}
theorem call_list_dX (hc : X.calm = true) : CallR X (.type "list") (fun xs H Q => ∃ d kvs, xs = [V.ref d] ∧ DAt X.prog X.w X.K H d kvs ∧ ∀ p bs, H p = none → IsKeysX X.K H kvs bs → Q (.ref p) (upd H p (.lst (bs.map V.ref)))) := by
  intro pins s σ H xs us Q I r h
  obtain ⟨d, kvs, rfl, ⟨ks, o, hd, pr⟩, q⟩ := h
  obtain ⟨u, rfl, rx⟩ := r.one
  cases rx
  obtain ⟨z, hs, es, ep, ho, hx, hdt, he, hn⟩ := (show DXp X.prog X.w d ks o s.heap from (show ObjOk X.prog X.w H s.heap d (DX X.prog X.w d ks o) from I.hok d _ hd).1)
  have l1 : es.size = ks.length := size_of_entries he
  refine PySem.W.kdl_call (kdl_raw hs hx hdt) (I.ok.hd hc) ho (by omega) fun h' tk acc' c' kp e it => ?_
  have ea : acc'.toList = ks.map fun x => Value.ref x.2.1 := by
    have hl : acc'.toList.length = ks.length := by rw [Array.length_toList, it.1]; exact l1
    apply List.ext_getElem?
    intro j
    rw [List.getElem?_map]
    cases hj : acc'.toList[j]? with
    | none =>
      have h1 := List.getElem?_eq_none_iff.mp hj
      rw [List.getElem?_eq_none (by omega)]
      all_goals rfl
    | some v =>
      obtain ⟨en, hen, hv⟩ := it.2 j v (by rw [← Array.getElem?_toList]; exact hj)
      have qe := entry_at he j
      rw [hen] at qe
      cases hb : ks[j]? with
      | none =>
        rw [hb] at qe
        exact nomatch (show some en = none from qe)
      | some b =>
        rw [hb] at qe
        have e2 : en = entryOfKey (tupleKind (mixKind X.prog X.w)) b := Option.some.inj qe
        rw [hv, e2]
        all_goals rfl
  have eb : acc'.toList = (ks.map fun x => x.2.1).map Value.ref := by rw [ea, List.map_map]; all_goals rfl
  have rv : Vals ((ks.map fun x => x.2.1).map V.ref) acc'.toList := by rw [eb]; exact vals_refs _
  have hz : ((ks.map fun x => x.2.1).map V.ref).length ≤ sizeLine := by rw [List.length_map, List.length_map]; omega
  refine ⟨.ref s.heap.objs.size, _, I.laid (t' := tk) (o := .lst ((ks.map fun x => x.2.1).map V.ref)) kp (Nat.le_refl _) ?_, rfl, q _ _ (I.hok.fresh (Nat.le_refl _)) (isKeysX_of pr)⟩
  exact ⟨hz, acc'.toList, c', rv, by rw [Array.toArray_toList]; exact e⟩
end
/-! ### what they give -/
section
variable {P : Program} {w : World} {K : PySem.W.Frag} {σ : L2.St} {H : Hp} {td ty tv : TE} {D : Ends} {tz : TS} {a b : Addr} {kvs : List (List Key × V)} {k : List Key} {v : V}
theorem ev_dgx (h1 : Ev td σ H (.ref a)) (h2 : Ev ty σ H (.ref b)) (g : DAt P w K H a kvs) (hb : SqT K H b (k.map kV)) (l : valV kvs k = some v) : Ev (tDGetX P w K td ty) σ H v := fun H1 e Q q =>
  h1 H1 e _ fun H2 e2 => h2 H2 (e.trans e2) _ fun H3 e3 => ⟨a, kvs, b, k, v, rfl, rfl, g.ext ((e.trans e2).trans e3), ex_t ((e.trans e2).trans e3) hb, l, q H3 (e2.trans e3)⟩
theorem ev_dnotinX (h2 : Ev ty σ H (.ref b)) (h1 : Ev td σ H (.ref a)) (g : DAt P w K H a kvs) (hb : SqT K H b (k.map kV)) : Ev (tDNotInX P w K ty td) σ H (.bl (!(valV kvs k).isSome)) := fun H1 e Q q =>
  h2 H1 e _ fun H2 e2 => h1 H2 (e.trans e2) _ fun H3 e3 => ⟨a, kvs, b, k, rfl, rfl, g.ext ((e.trans e2).trans e3), ex_t ((e.trans e2).trans e3) hb, q H3 (e2.trans e3)⟩
theorem ep_dnewX : EvP (tDNewX P w) σ H (fun v H' => ∃ p, v = .ref p ∧ H p = none ∧ DAt P w K H' p []) := fun H1 e Q q p hp => q _ _ (Ex.new hp) ⟨p, rfl, fresh_back e hp, [], _, upd_same, .nil⟩
end
end KC
set_option Elab.async false
set_option linter.all false
set_option maxRecDepth 100000
set_option maxHeartbeats 4000000
/-! min(.., default=None); sorted of a dict with keys of ints; == of such dicts. -/
namespace KC
open PySem PySem.Spec PyProof.Rows L2 GX Evl
def minO : List Int → V
  | [] => .non
  | n :: ns => .int (ns.foldl min n)
def rMinN (K : PySem.W.Frag) : List V → List V → Hp → VK → Prop := fun xs zs H Q => ∃ (l : Addr) (ns : List Int), xs = [.ref l] ∧ zs = [.non] ∧ SqL K H l (ns.map V.int) ∧ Q (minO ns) H
theorem depthAll_ints : ∀ ns : List Int, PyData.depthAll (ns.map PyData.int) = 0
  | [] => rfl
  | n :: ns => by
    rw [List.map_cons]
    show max 0 (PyData.depthAll (ns.map PyData.int)) = 0
    rw [depthAll_ints ns]
    rfl
theorem alike_ints (ns : List Int) : PySem.W.AlikeAll (ns.map PyData.int) := by
  refine ⟨fun x hx y hy => ?_, fun x hx => ?_⟩
  · obtain ⟨i, _, rfl⟩ := List.mem_map.mp hx
    obtain ⟨j, _, rfl⟩ := List.mem_map.mp hy
    rfl
  · obtain ⟨i, _, rfl⟩ := List.mem_map.mp hx
    exact fun z => nomatch z
section
variable {X : Cx}
theorem cr_minN (hc : X.calm = true) (hu : X.A.units + 64 < cLine) : CallRK X (.builtin "min") [Str.ofString "default"] (rMinN X.K) := by
  intro pins s σ H xs zs us ws Q I r rz h
  obtain ⟨l, ns, rfl, rfl, hs, q⟩ := h
  obtain ⟨its, rv, hl, hz⟩ := I.list hs
  obtain ⟨u, rfl, ru⟩ := vals1 r
  obtain ⟨d, rfl, rd⟩ := vals1 rz
  cases ru
  cases rd
  obtain ⟨as, hr⟩ := Dp.readsAll I (ns.map PyData.int) _ its (dpAll_ints ns) rv
  refine PySem.W.min_list_default (I.ok.hd hc) hl.isList (by simpa using hr) (alike_ints ns) (by rw [depthAll_ints]; omega) (fun e h' tk k => ?_) (fun y ys i v h' tk bs e hi rd k => ?_)
  · have e2 : ns = [] := by simpa using e
    subst e2
    exact ⟨.non, H, I.kept k, rfl, q⟩
  · cases ns with
    | nil => simp at e
    | cons n ns =>
      rw [List.map_cons] at e
      injection e with e1 e2
      subst e1 e2
      rw [PySem.W.minD_ints] at rd
      cases rd with
      | int => exact ⟨.int _, H, I.kept k, ⟨_, rfl⟩, q⟩
end
/-! ### sorted(d) -/
section
variable {prog : Program} {w : World} {A : Around} {E : Value → Shared → Prop} {s : Shared}
theorem ints_of_items : ∀ {ns : List Int} {vs : List Value}, ItemsAre (mixKind prog w) (ns.map Sum.inl) vs → IntsAre vs ns
  | [], _, h => by cases h; exact .nil
  | n :: ns, _, h => by
    cases h with
    | cons h1 h2 =>
      rcases keyIs_shape (show keyIs (Sum.inl n) _ = true from h1) with ⟨i, t, ek, ev⟩ | ⟨z, t, ek, ev⟩
      · injection ek with ek
        subst ek ev
        exact .cons _ _ (ints_of_items h2)
      · exact nomatch ek
def IsTl (h : Heap) (v : Value) (ns : List Int) : Prop := ∃ a o items n, v = .ref a ∧ h.get? a = some o ∧ o.cls = .type "tuple" ∧ o.data = .seq items n ∧ IntsAre items.toList ns
theorem IsTl.keeps {h h' : Heap} {v : Value} {ns : List Int} (p : IsTl h v ns) (k : ∀ b o, h.get? b = some o → o.cls = .type "tuple" → h'.get? b = some o) : IsTl h' v ns := by
  obtain ⟨a, o, t, n, e, ho, hc, hd, hi⟩ := p
  exact ⟨a, o, t, n, e, k _ _ ho hc, hc, hd, hi⟩
theorem lex_tl {Q : Bool → Shared → Prop} : ∀ (vs ws : List Value) (ns ms : List Int) (i : Nat), IntsAre vs ns → IntsAre ws ms → ns.length = ms.length → Q (HT.lexLt ns ms) s → PySem.W.KatLex prog w A true false Q (vs.zip ws) i s
  | _, _, [], [], i, .nil, .nil, _, h => PySem.W.kat_nil h
  | _, _, [], _ :: _, _, _, _, hl, _ => by simp at hl
  | _, _, _ :: _, [], _, _, _, hl, _ => by simp at hl
  | _, _, n :: ns, m :: ms, i, .cons _ t h1, .cons _ u h2, hl, h => by
    rw [List.zip_cons_cons]
    rw [HT.lexLt_cons] at h
    refine PySem.W.kat_cons (SeqAt.EqAt.int_int n t m u prog w _ _ ?_)
    refine PySem.W.kat_go (fun e => ?_) (fun e => ?_)
    · have e : n = m := by simpa using e
      rw [if_pos e] at h
      exact PySem.W.kat_yes (lex_tl _ _ ns ms (i + 1) h1 h2 (by simpa using hl) h)
    · have e : ¬ n = m := by simpa using e
      rw [if_neg e] at h
      exact PySem.W.kat_no (TS.oneLt_ints _ h)
theorem tl_cmp {vs : List Value} {k : Value → List Int} {d : Nat} (hp : ∀ v ∈ vs, IsTl s.heap v (k v) ∧ (k v).length = d) : SrtO.Cmp prog w A s (tuples' true) (fun p => p.1 ∈ vs) (SrtO.lt2 fun v u => HT.lexLt (k v) (k u)) := by
  intro p q hm hm'
  obtain ⟨h1, l1⟩ := hp _ hm
  obtain ⟨h2, l2⟩ := hp _ hm'
  show wpAny (model prog w) A (keyLt' (tuples' true) p.1 q.1) (fun r s' => s' = s ∧ r = HT.lexLt (k p.1) (k q.1)) (fun _ _ => False) s
  generalize k p.1 = ns at h1 l1 ⊢
  generalize k q.1 = ms at h2 l2 ⊢
  obtain ⟨a, o, xs, n, e, ho, hc, hd, hi⟩ := h1
  obtain ⟨a', o', ys, n', e', ho', hc', hd', hi'⟩ := h2
  rw [e, e']
  refine PySem.W.kat_lt ho hd ho' hd' ?_
  have z1 : xs.size = ns.length := by rw [← hi.length]; simp
  have z2 : ys.size = ms.length := by rw [← hi'.length]; simp
  have ef : decide (xs.size < ys.size) = false := decide_eq_false (by omega)
  rw [ef]
  exact lex_tl _ _ ns ms 0 hi hi' (by omega) ⟨rfl, rfl⟩
theorem firsts_tl {h : Heap} {k : Value → List Int} : ∀ {vs : List Value}, (∀ v ∈ vs, IsTl h v (k v) ∧ 1 ≤ (k v).length) → ∃ fs : List Value, PySem.W.KatTups h vs fs ∧ fs.length = vs.length ∧ ∀ f ∈ fs, ∃ x t, f = Value.int x t
  | [], _ => ⟨[], PySem.W.KatTups.nil, rfl, fun _ hm => by simp at hm⟩
  | v :: vs, hp => by
    obtain ⟨fs, h1, h2, h3⟩ := firsts_tl (vs := vs) fun v' hm => hp v' (List.mem_cons_of_mem _ hm)
    obtain ⟨⟨a, o, xs, n, e, ho, hc, hd, hi⟩, hl⟩ := hp v (List.mem_cons_self ..)
    generalize k v = ns at hi hl
    subst e
    obtain ⟨ys⟩ := xs
    cases hi with
    | nil => simp at hl
    | cons x t hi =>
      refine ⟨.int x t :: fs, PySem.W.KatTups.cons ho hc hd rfl h1, by rw [List.length_cons, List.length_cons, h2], fun f hm => ?_⟩
      rcases List.mem_cons.mp hm with rfl | hm
      · exact ⟨x, t, rfl⟩
      · exact h3 f hm
theorem tl_sortable {a : Addr} {vs : List Value} {k : Value → List Int} {d : Nat} (h0 : 0 < vs.length) (h1 : 1 ≤ d) (hp : ∀ v ∈ vs, IsTl s.heap v (k v) ∧ (k v).length = d) (ha : ∀ o, s.heap.get? a = some o → o.cls ≠ .type "tuple") : SrtO.SortableO prog w A s a vs fun v u => HT.lexLt (k v) (k u) := by
  intro h' keep
  have hp' : ∀ v ∈ vs, IsTl h' v (k v) ∧ (k v).length = d := fun v hm => ⟨(hp v hm).1.keeps fun b o e c => keep b o (fun z => by subst z; exact ha o e c) e, (hp v hm).2⟩
  obtain ⟨fs, h1, h2, h3⟩ := firsts_tl (k := k) fun v hm => ⟨(hp' v hm).1, by rw [(hp' v hm).2]; exact h1⟩
  refine ⟨tuples' true, fun Q E hq => ?_, tl_cmp hp'⟩
  refine PySem.W.kat_kind (T := .type "int") h1 (by omega) (fun f hm => ?_) (by rfl) ?_
  · obtain ⟨x, t, rfl⟩ := h3 f hm
    exact PySem.W.Looks.now
  · have e : (Value.type "int" != Value.type "tuple") = true := by first | decide +kernel | rfl | decide
    rw [e]
    exact hq
end
def keyInts : List Key → List Int
  | [] => []
  | .inl i :: r => i :: keyInts r
  | .inr _ :: r => keyInts r
def stK (x y z : Int) : List Key := [.inl x, .inl y, .inl z]
def vKey (ks : List (List Key × Addr × Value)) : Value → List Int
  | .ref a => match ks.find? fun x => x.2.1 == a with
    | some x => keyInts x.1
    | none => []
  | _ => []
theorem acc_keys {P : Program} {w : World} {ks : List (List Key × Addr × Value)} {es : Array DictEntry} {acc : Array Value} (he : es.toList = ks.map (entryOfKey (tupleKind (mixKind P w)))) (h1 : acc.size = es.size) (h2 : ∀ (i : Nat) (v : Value), acc[i]? = some v → ∃ en : DictEntry, es[i]? = some en ∧ v = en.key) :
    acc.toList = (ks.map fun x => x.2.1).map Value.ref := by
  have l1 : es.size = ks.length := size_of_entries he
  rw [List.map_map]
  have hl : acc.toList.length = ks.length := by rw [Array.length_toList, h1]; exact l1
  apply List.ext_getElem?
  intro j
  rw [List.getElem?_map]
  cases hj : acc.toList[j]? with
  | none =>
    have h1 := List.getElem?_eq_none_iff.mp hj
    rw [List.getElem?_eq_none (by omega)]
    all_goals rfl
  | some v =>
    obtain ⟨en, hen, hv⟩ := h2 j v (by rw [← Array.getElem?_toList]; exact hj)
    have qe := entry_at he j
    rw [hen] at qe
    cases hb : ks[j]? with
    | none =>
      rw [hb] at qe
      exact nomatch (show some en = none from qe)
    | some b =>
      rw [hb] at qe
      have e2 : en = entryOfKey (tupleKind (mixKind P w)) b := Option.some.inj qe
      rw [hv, e2]
      all_goals rfl
def rSortX (P : Program) (w : World) (K : PySem.W.Frag) : List V → Hp → VK → Prop := fun xs H Q => ∃ d kvs, xs = [V.ref d] ∧ DAt P w K H d kvs ∧ (∀ kv ∈ kvs, ∃ x y z : Int, kv.1 = stK x y z) ∧
  ∀ (p : Addr) (bs cs : List Addr), H p = none → IsKeysX K H kvs bs → cs.Perm bs → (∃ g : Addr → List Int, (∀ (i : Nat) (kv : List Key × V) (b : Addr), kvs[i]? = some kv → bs[i]? = some b → g b = keyInts kv.1) ∧ cs.Pairwise fun a b => HT.lexLt (g b) (g a) = false) → Q (.ref p) (upd H p (.lst (cs.map V.ref)))
theorem ints_fun : ∀ {vs : List Value} {ns ms : List Int}, IntsAre vs ns → IntsAre vs ms → ns = ms
  | _, _, _, .nil, h => by cases h; rfl
  | _, _, _, .cons _ _ a, h => by
    cases h with
    | cons _ _ b => rw [ints_fun a b]
theorem refs_perm : ∀ {out : List Value}, (∀ v ∈ out, ∃ t, v = Value.ref t) → ∃ cs : List Addr, out = cs.map Value.ref
  | [], _ => ⟨[], rfl⟩
  | v :: out, h => by
    obtain ⟨t, e⟩ := h v List.mem_cons_self
    obtain ⟨cs, ec⟩ := refs_perm fun u hu => h u (List.mem_cons_of_mem _ hu)
    exact ⟨t :: cs, by rw [e, ec]; rfl⟩
def adX : Value → Addr
  | .ref a => a
  | _ => 0
theorem refs_inj {a b : List Addr} (h : (a.map Value.ref).Perm (b.map Value.ref)) : a.Perm b := by
  have q := h.map adX
  rw [List.map_map, List.map_map] at q
  have e : (adX ∘ Value.ref) = id := rfl
  rwa [e, List.map_id, List.map_id] at q
theorem vals_refs' : ∀ as : List Addr, Vals (as.map V.ref) (as.map Value.ref)
  | [] => .nil
  | _ :: as => .cons rfl (vals_refs' as)
section
variable {X : Cx}
theorem cr_sortedX (hc : X.calm = true) : CallR X (.builtin "sorted") (rSortX X.prog X.w X.K) := by
  intro pins s σ H xs us Q I r h
  obtain ⟨d, kvs, rfl, ⟨ks, o0, hd, pr⟩, hks, q⟩ := h
  obtain ⟨u, rfl, rx⟩ := r.one
  cases rx
  obtain ⟨z, hs, dd⟩ := dx_heap I hd pr
  obtain ⟨o, es, ep, ho, hx, hdt, he, hkk, hn⟩ := dd
  have l1 : es.size = ks.length := size_of_entries he
  have key3 : ∀ x ∈ ks, ∃ a b c : Int, x.1 = stK a b c := by
    have all : ∀ {l : List (List Key × V)} {m : List (List Key × Addr × Value)}, KX X.K H l m → (∀ kv ∈ l, ∃ x y z : Int, kv.1 = stK x y z) → ∀ x ∈ m, ∃ a b c : Int, x.1 = stK a b c := by
      intro l m q
      induction q with
      | nil => intro _ x hx; exact nomatch hx
      | @cons p q ps qs hq t ih =>
        intro hl x hx
        rcases List.mem_cons.mp hx with e | hx
        · subst e
          rw [← hq.1]
          exact hl p List.mem_cons_self
        · exact ih (fun kv hk => hl kv (List.mem_cons_of_mem _ hk)) x hx
    exact all pr hks
  have tl : ∀ v ∈ (ks.map fun x => x.2.1).map Value.ref, IsTl s.heap v (vKey ks v) ∧ (vKey ks v).length = 3 := fun v hv => by
    obtain ⟨a, ha, rfl⟩ := List.mem_map.mp hv
    obtain ⟨x, hxm, rfl⟩ := List.mem_map.mp ha
    have hf : ∃ x', ks.find? (fun y => y.2.1 == x.2.1) = some x' := by
      cases e : ks.find? (fun y => y.2.1 == x.2.1) with
      | some x' => exact ⟨x', rfl⟩
      | none => exact absurd (List.find?_eq_none.mp e x hxm) (by simp)
    obtain ⟨x', e⟩ := hf
    have em : x' ∈ ks := List.mem_of_find?_eq_some e
    have ea : x'.2.1 = x.2.1 := by simpa using List.find?_some e
    obtain ⟨i, j, k, e3⟩ := key3 x' em
    obtain ⟨o', its, n, h1, h2, h3, h4⟩ := hkk x' em
    have ev : vKey ks (.ref x.2.1) = [i, j, k] := by
      show (match ks.find? (fun y => y.2.1 == x.2.1) with | some x => keyInts x.1 | none => []) = _
      rw [e]
      show keyInts x'.1 = _
      rw [e3]
      rfl
    rw [ev]
    rw [e3] at h4
    rw [ea] at h1
    exact ⟨⟨x.2.1, o', its, n, rfl, h1, h2, h3, ints_of_items (ns := [i, j, k]) h4⟩, rfl⟩
  have vk : ∀ x ∈ ks, vKey ks (.ref x.2.1) = keyInts x.1 := fun x hxm => by
    have hf : ∃ x', ks.find? (fun y => y.2.1 == x.2.1) = some x' := by
      cases e : ks.find? (fun y => y.2.1 == x.2.1) with
      | some x' => exact ⟨x', rfl⟩
      | none => exact absurd (List.find?_eq_none.mp e x hxm) (by simp)
    obtain ⟨x', e⟩ := hf
    have em : x' ∈ ks := List.mem_of_find?_eq_some e
    have ea : x'.2.1 = x.2.1 := by simpa using List.find?_some e
    obtain ⟨i, j, k, e3⟩ := key3 x' em
    obtain ⟨i2, j2, k2, e32⟩ := key3 x hxm
    obtain ⟨o', its, n, h1, h2, h3, h4⟩ := hkk x' em
    obtain ⟨o2, its2, n2, g1, g2, g3, g4⟩ := hkk x hxm
    rw [ea, g1] at h1
    have h1 := Option.some.inj h1
    subst h1
    rw [g3] at h3
    injection h3 with h3 _
    subst h3
    rw [e3] at h4
    rw [e32] at g4
    have q1 := ints_of_items (ns := [i, j, k]) h4
    have q2 := ints_of_items (ns := [i2, j2, k2]) g4
    have q3 := ints_fun q1 q2
    show (match ks.find? (fun y => y.2.1 == x.2.1) with | some x => keyInts x.1 | none => []) = _
    rw [e]
    show keyInts x'.1 = keyInts x.1
    rw [e3, e32]
    exact q3
  refine Calls.call_function_entry PyProof.Rows.kind_sorted PyProof.Rows.plain_sorted PyProof.Rows.entry_sorted (PyProof.Rows.args_sorted1 _) ?_
  unfold Builtin.«sorted»
  refine wpAny_bind (m := checkCount "sorted" 1 1 _) (wpAny_pure ?_)
  refine wpAny_bind (PySem.W.kdu_collect (A := X.A.in1) (kdl_raw hs hx hdt) (I.ok.hd hc) ho (by omega) fun h' tk acc hk hacc => ?_)
  have ea : acc.toList = (ks.map fun x => x.2.1).map Value.ref := acc_keys he hacc.1 hacc.2
  have hal : acc.toList.length = ks.length := by rw [ea, List.length_map, List.length_map]
  have I1 : Inv X pins σ H { s with heap := h', toks := tk } := I.kept hk
  refine wpAny_bind (wpAny_newList ?_ (by rw [hal]; exact z))
  have hoL : (h'.push (seqObj "list" acc.toList.toArray 0)).get? h'.objs.size = some (seqObj "list" acc.toList.toArray 0) := Heap.get?_push_size _ rfl
  show wpAny _ _ _ _ _ { s with heap := h'.push (seqObj "list" acc.toList.toArray 0), toks := tk }
  refine wpAny_bind (wpAny_holding (wpAny_call_entry PyProof.Rows.slot_list_sort ⟨_, hoL, rfl⟩ PyProof.Rows.entry_list_sort
    (SrtO.list_sort_ord (s := { s with heap := h'.push (seqObj "list" acc.toList.toArray 0), toks := tk }) (NtL.swo_lexL (vKey ks)) hoL (by rw [hal]; exact z) (fun h2 => tl_sortable (d := 3) (by omega) (by decide) (fun v hv => ?_) fun o e => ?_) fun out hso hst => ⟨_, rfl, ?_⟩)
    (PyProof.Rows.args_list_sort _)))
  · rw [ea] at hv
    exact ⟨(tl v hv).1.keeps fun b o e _ => Heap.get?_push_of_some _ (hk b o e), (tl v hv).2⟩
  · have e' : some o = some (seqObj "list" acc.toList.toArray 0) := e.symm.trans hoL
    cases e'
    intro c
    exact absurd (Value.type.inj c) (by decide)
  · have hpm := hst.perm
    rw [ea] at hpm
    obtain ⟨cs, rfl⟩ := refs_perm (out := out) fun v hv => by
      obtain ⟨a, _, rfl⟩ := List.mem_map.mp (hpm.mem_iff.mp hv)
      exact ⟨a, rfl⟩
    have hcp := refs_inj hpm
    obtain ⟨e', he'⟩ := PyProof.Rows.sortedHeap_at (vs := acc.toList) (out := (cs.map Value.ref).toArray) hoL
    have hlen : (cs.map V.ref).length ≤ sizeLine := by
      rw [List.length_map, hcp.length_eq, List.length_map]
      exact z
    refine wpAny_pure ⟨_, rfl, .ref h'.objs.size, upd H h'.objs.size (.lst (cs.map V.ref)), I1.laid (t' := tk) (fun b u e => ?_) (Nat.le_refl _)
      (show ObjOk X.prog X.w _ _ _ (.lst (cs.map V.ref)) from ⟨hlen, cs.map Value.ref, e', vals_refs' cs, he'⟩), rfl, q _ _ cs (I1.hok.fresh (Nat.le_refl _)) (isKeysX_of pr) hcp ⟨fun a => vKey ks (.ref a), fun i kv b h1 h2 => ?_, ?_⟩⟩
    have hb : b < h'.objs.size := Heap.lt_size e
    rw [PyProof.Rows.sortedHeap_old (Nat.ne_of_lt hb) (by rw [size_push']; exact Nat.lt_succ_of_lt hb)]
    exact Heap.get?_push_of_some _ e
    · rw [List.getElem?_map] at h2
      cases e : ks[i]? with
      | none => rw [e] at h2; cases h2
      | some x =>
        rw [e] at h2
        have h2 := Option.some.inj h2
        subst h2
        show vKey ks (.ref x.2.1) = keyInts kv.1
        rw [vk x (List.mem_of_getElem? e)]
        have all : ∀ {l : List (List Key × V)} {m : List (List Key × Addr × Value)}, KX X.K H l m → ∀ (i : Nat) kv x, l[i]? = some kv → m[i]? = some x → kv.1 = x.1 := by
          intro l m q
          induction q with
          | nil => intro i kv x h _; simp at h
          | @cons p q ps qs hq t ih =>
            intro i kv x h1 h2
            cases i with
            | zero =>
              obtain rfl := Option.some.inj (show some _ = some _ from h1)
              obtain rfl := Option.some.inj (show some _ = some _ from h2)
              exact hq.1
            | succ i => exact ih i kv x (by simpa using h1) (by simpa using h2)
        rw [all pr i kv x h1 e]
    · have := hso
      unfold SrtO.Srtd at this
      rw [List.pairwise_map] at this
      exact this
end
end KC
set_option Elab.async false
set_option linter.all false
set_option maxRecDepth 100000
set_option maxHeartbeats 4000000
/-! == and != of two dicts with tuple keys that say the same. -/
namespace KC
open PySem PySem.Spec PyProof.Rows L2 GX Evl
section
variable {prog : Program} {w : World} {KT : Type} [DecidableEq KT] {knd : HeapKind prog w KT} {A : Around} {E : Value → Shared → Prop} {s : Shared}
theorem samePairsX {nm : String} {a b : Addr} {ka kb : List (KT × Addr × Value)} {Q : Bool → Shared → Prop} (ha : (a == sysModules) = false) (hb : (b == sysModules) = false) (hu : knd.room A)
    (da : s.heap.DictOfH knd a ka) (db : s.heap.DictOfH knd b kb) (hlen : ka.length = kb.length) (hits : ∀ x ∈ ka, ∃ y, atKey kb x.1 = some y ∧ SeqAt.EqP prog w A s x.2.2 y.2 true) (h : Q true s) :
    wpAny (model prog w) A (Builtin.Dict.samePairs nm a b) Q E s := by
  obtain ⟨oa, es, ep, hoa, _, hda, hea, hia, hna⟩ := da
  obtain ⟨ob, es', ep', hob, _, hdb, heb, hib, hnb⟩ := db
  have hla : es.size = ka.length := size_of_entries hea
  have hlb : es'.size = kb.length := size_of_entries heb
  have hsz : es.size = es'.size := by omega
  unfold Builtin.Dict.samePairs Builtin.Dict.showsAll
  rw [if_neg (show ¬ (a == sysModules) = true by rw [ha]; exact Bool.false_ne_true), if_neg (show ¬ (b == sysModules) = true by rw [hb]; exact Bool.false_ne_true)]
  refine wpAny_bind (wpAny_pure (wpAny_bind (wpAny_pure ?_)))
  refine wpAny_bind (wpAny_dictEntries hoa hda ?_)
  dsimp only
  refine wpAny_bind (wpAny_dictEntries hob hdb ?_)
  rw [if_neg (by rw [hsz]; simp)]
  refine wpAny_bind (wpAny_dictEpoch hoa hda ?_)
  refine wpAny_bind ?_
  rw [Std.Legacy.Range.forIn_eq_forIn_range']
  simp only [Std.Legacy.Range.size, Nat.sub_zero, Nat.add_sub_cancel, Nat.div_one]
  refine wpAny_forIn_list _
    (fun rest q s' => s' = s ∧ q = (none, ()) ∧ ∃ i, rest = List.range' i (es.size - i) ∧ i ≤ es.size)
    _ ?_ ?_ _ _ ⟨rfl, rfl, 0, by simp, Nat.zero_le _⟩
  · rintro x rest q s' ⟨rfl, rfl, i, hr, hi⟩
    have hlt : i < es.size := by
      rcases Nat.lt_or_ge i es.size with h | h
      · exact h
      · rw [Nat.sub_eq_zero_of_le h] at hr; simp at hr
    obtain ⟨rfl, hrest⟩ : x = i ∧ rest = List.range' (i + 1) (es.size - (i + 1)) := by
      have e : es.size - i = (es.size - (i + 1)) + 1 := by omega
      rw [e, List.range'_succ] at hr
      injection hr with h1 h2
      exact ⟨h1, h2⟩
    refine wpAny_bind (wpAny_dictEntries hoa hda ?_)
    have hlt' : x < ka.length := by omega
    have hen : es[x]? = some (entryOfKey knd ka[x]) := by rw [entry_at hea x, List.getElem?_eq_getElem hlt']; rfl
    have hm : ka[x] ∈ ka := List.getElem_mem hlt'
    generalize ka[x] = z at hen hm
    obtain ⟨y, hy, hq⟩ := hits z hm
    rw [hen]
    show wpAny _ _ (holding [Value.ref z.2.1, z.2.2] _ >>= _) _ _ _
    refine wpAny_bind (wpAny_holding (wpAny_bind (wpAny_dictFind_heap hu (hia z hm) hob hdb heb hib hnb (fun hno => ?_) fun j p hj => ?_)))
    · rw [atKey_none_of_get hno] at hy
      exact nomatch hy
    · rw [atKey_of_get hnb hj] at hy
      have hy := Option.some.inj hy
      subst hy
      refine wpAny_bind (wpAny_dictEntries hob hdb ?_)
      rw [entry_at heb j, hj]
      refine wpAny_holding (hq _ _ ?_)
      show wpAny _ _ (if (!true) = true then _ else _) _ _ _
      rw [if_neg (by decide)]
      refine wpAny_bind (wpAny_dictEpoch hoa hda ?_)
      rw [if_neg (by simp)]
      exact wpAny_pure ⟨rfl, rfl, x + 1, hrest, hlt⟩
  · rintro q s' ⟨rfl, rfl, i, hr, hi⟩
    exact wpAny_pure h
theorem eqX {a b : Addr} {ka kb : List (KT × Addr × Value)} {Q : Value → Shared → Prop} (ha : (a == sysModules) = false) (hb : (b == sysModules) = false) (hr : knd.room A.in1)
    (da : s.heap.DictOfH knd a ka) (db : s.heap.DictOfH knd b kb) (hu : A.units < cLine) (hlen : ka.length = kb.length) (hits : ∀ x ∈ ka, ∃ y, atKey kb x.1 = some y ∧ SeqAt.EqP prog w A.in1 s x.2.2 y.2 true) (h : Q (.bool true) s) :
    wpAny (model prog w) A (compareOp .Eq (.ref a) (.ref b)) Q E s := by
  refine wpAny_richCompare_same_room (op := .Eq) da.typeIs db.typeIs PySem.F.slot_dict_eq (wpAny_call_entry PySem.F.slot_dict_eq da.typeIs PySem.F.entry_dict_eq ?_ (PySem.F.args_dict_eq_2 _ _)) hu
  show wpAny _ _ (Builtin.Dict.dictSlotArgs "__eq__" ⟨[.ref a, .ref b], []⟩ >>= _) _ _ s
  refine wpAny_bind ?_
  unfold Builtin.Dict.dictSlotArgs
  refine wpAny_bind (wpAny_notOrdered_dict da.typeIs ?_)
  show wpAny _ _ (pure (Value.ref a, Value.ref b)) _ _ s
  refine wpAny_pure ?_
  refine wpAny_bind (wpAny_isInstance (T := "dict") db.typeIs PySem.F.sub_dict_dict ?_)
  simp only [Bool.not_true, Bool.false_eq_true, if_false]
  refine wpAny_bind (wpAny_pure (wpAny_bind (wpAny_pure ?_)))
  refine wpAny_bind (samePairsX ha hb hr da db hlen hits ?_)
  refine wpAny_pure ⟨_, rfl, ?_, ?_⟩
  · exact fun x => nomatch x
  · simpa using h
theorem neX {a b : Addr} {ka kb : List (KT × Addr × Value)} {Q : Value → Shared → Prop} (ha : (a == sysModules) = false) (hb : (b == sysModules) = false) (hr : knd.room A.in1)
    (da : s.heap.DictOfH knd a ka) (db : s.heap.DictOfH knd b kb) (hu : A.units < cLine) (hlen : ka.length = kb.length) (hits : ∀ x ∈ ka, ∃ y, atKey kb x.1 = some y ∧ SeqAt.EqP prog w A.in1 s x.2.2 y.2 true) (h : Q (.bool false) s) :
    wpAny (model prog w) A (compareOp .NotEq (.ref a) (.ref b)) Q E s := by
  refine wpAny_richCompare_same_room (op := .NotEq) da.typeIs db.typeIs PySem.F.slot_dict_ne (wpAny_call_entry PySem.F.slot_dict_ne da.typeIs PySem.F.entry_dict_ne ?_ (PySem.F.args_dict_ne_2 _ _)) hu
  show wpAny _ _ (Builtin.Dict.dictSlotArgs "__ne__" ⟨[.ref a, .ref b], []⟩ >>= _) _ _ s
  refine wpAny_bind ?_
  unfold Builtin.Dict.dictSlotArgs
  refine wpAny_bind (wpAny_notOrdered_dict da.typeIs ?_)
  show wpAny _ _ (pure (Value.ref a, Value.ref b)) _ _ s
  refine wpAny_pure ?_
  refine wpAny_bind (wpAny_isInstance (T := "dict") db.typeIs PySem.F.sub_dict_dict ?_)
  simp only [Bool.not_true, Bool.false_eq_true, if_false]
  refine wpAny_bind (wpAny_pure (wpAny_bind (wpAny_pure ?_)))
  refine wpAny_bind (samePairsX ha hb hr da db hlen hits ?_)
  refine wpAny_pure ⟨_, rfl, ?_, ?_⟩
  · exact fun x => nomatch x
  · simpa using h
end
/-- an int or None -/
def inB : V → Bool
  | .int _ => true
  | .non => true
  | _ => false
def rNeX (P : Program) (w : World) (K : PySem.W.Frag) : R2 := fun x y H Q => ∃ a b ks ls, x = .ref a ∧ y = .ref b ∧ DAt P w K H a ks ∧ DAt P w K H b ls ∧ ks.length = ls.length ∧ (∀ p ∈ ks, valV ls p.1 = some p.2 ∧ inB p.2 = true) ∧ Q (.bl false) H
section
variable {X : Cx}
theorem op_neX (hu : X.A.units + 64 < cLine) : OpR X (compareOp .NotEq) (rNeX X.prog X.w X.K) := by
  intro pins s σ H x y v u Q I rx ry h
  obtain ⟨a, b, ks, ls, rfl, rfl, ⟨xa, oa, ea, ra⟩, ⟨xb, ob, eb, rb⟩, hlen, hp, q⟩ := h
  obtain rfl : v = Value.ref a := rx
  obtain rfl : u = Value.ref b := ry
  obtain ⟨_, sa, da⟩ := dx_heap I ea ra
  obtain ⟨_, sb, db⟩ := dx_heap I eb rb
  refine neX sa sb (tupleKind_room_in1 (by omega)) da db (by omega) (by have h1 := Paired.length ra; have h2 := Paired.length rb; omega) ?_ ⟨.bl false, H, I, rfl, q⟩
  have all : ∀ {l : List (List Key × V)} {m : List (List Key × Addr × Value)}, KX X.K H l m → (∀ p ∈ l, valV ls p.1 = some p.2 ∧ inB p.2 = true) → ∀ x ∈ m, ∃ y, atKey xb x.1 = some y ∧ SeqAt.EqP X.prog X.w X.A.in1 s x.2.2 y.2 true := by
    intro l m qq
    induction qq with
    | nil => intro _ x hx; exact nomatch hx
    | @cons p q ps qs hq t ih =>
      intro hl x hx
      rcases List.mem_cons.mp hx with e | hx
      · subst e
        obtain ⟨h1, h2⟩ := hl p List.mem_cons_self
        obtain ⟨k1, _, k3⟩ := hq
        rw [k1] at h1
        obtain ⟨w', hw, rw'⟩ := RelO.some_of (v := p.2) (o := (atKey xb x.1).map (·.2)) (by rw [← h1]; exact rb.val x.1)
        obtain ⟨y, hy, hy2⟩ := Option.map_eq_some_iff.mp hw
        refine ⟨y, hy, SeqAt.EqAt.eqP ?_⟩
        rw [hy2]
        generalize p.2 = pv at h2 k3 rw'
        generalize x.2.2 = xv at k3
        cases pv with
        | int i =>
          obtain ⟨t1, rfl⟩ := k3
          obtain ⟨t2, rfl⟩ := rw'
          have := SeqAt.EqAt.int_int (A := X.A.in1) (s := s) i t1 i t2
          simpa using this
        | non =>
          cases k3
          cases rw'
          exact SeqAt.EqAt.same _
        | _ => exact nomatch h2
      · exact ih (fun p hk => hl p (List.mem_cons_of_mem _ hk)) x hx
  exact all ra hp
end
/-! ### readings -/
section
variable {P : Program} {w : World} {K : PySem.W.Frag} {σ : L2.St} {H : Hp} {td ty tv ta tb : TE} {D : Ends} {tz : TS} {a b : Addr} {kvs ls : List (List Key × V)} {k : List Key} {v : V}
theorem ev_neX (h1 : Ev ta σ H (.ref a)) (h2 : Ev tb σ H (.ref b)) (ha : DAt P w K H a kvs) (hb : DAt P w K H b ls) (hl : kvs.length = ls.length) (hp : ∀ p ∈ kvs, valV ls p.1 = some p.2 ∧ inB p.2 = true) : Ev (tOp (rNeX P w K) ta tb) σ H (.bl false) := fun H1 e Q q =>
  h1 H1 e _ fun H2 e2 => h2 H2 (e.trans e2) _ fun H3 e3 => ⟨a, b, kvs, ls, rfl, rfl, ha.ext ((e.trans e2).trans e3), hb.ext ((e.trans e2).trans e3), hl, hp, q H3 (e2.trans e3)⟩
theorem ev_minN {l : Addr} {ns : List Int} (h : EvL ta σ H (ns.map V.int)) (h2 : ∀ H1, Ex H H1 → Ev tb σ H1 .non) : Ev (tCKw (rMinN K) (tCons ta tNil) (tCons tb tNil)) σ H (minO ns) := fun H1 e Q q =>
  h H1 e _ fun p H2 hp e2 hl => h2 H2 (e.trans e2) H2 (Ex.refl _) _ fun H3 e3 => ⟨p, ns, rfl, rfl, sq_of (e3 p _ hl), q H3 (e2.trans e3)⟩
end
end KC
set_option Elab.async false
set_option linter.all false
set_option maxRecDepth 100000
set_option maxHeartbeats 4000000
/-! New lists of data, dicts written to, extend, reversed. -/
namespace KC
open PySem PySem.Spec PyProof.Rows L2 GX Evl
def EvLD (K : PySem.W.Frag) (te : TE) (σ : L2.St) (H : Hp) (ds : List PyData) : Prop := ∀ H1, Ex H H1 → ∀ Q : VK, (∀ p vs H2, H1 p = none → Ex H1 H2 → H2 p = some (.lst vs) → DpAll K H2 vs ds → Q (.ref p) H2) → te σ H1 Q
def RetLD (K : PySem.W.Frag) (ds : List PyData) (H : Hp) (Q : VK) : Prop := ∀ p vs H2, H p = none → Ex H H2 → H2 p = some (.lst vs) → DpAll K H2 vs ds → Q (.ref p) H2
def SpLD (K : PySem.W.Frag) (sp : Sp) (vs : List V) (H : Hp) (ds : List PyData) : Prop := ∀ H1, Ex H H1 → ∀ Q : VK, (∀ p xs H2, H1 p = none → Ex H1 H2 → H2 p = some (.lst xs) → DpAll K H2 xs ds → Q (.ref p) H2) → ∀ E : XK, sp vs H1 Q E
mutual
theorem Dp.keepT {K : PySem.W.Frag} {H H' : Hp} (hk : ∀ b ys, SqT K H b ys → SqT K H' b ys) : ∀ (d : PyData) (v : V), noList d = true → Dp K H v d → Dp K H' v d
  | .none, _, _, h => by cases h; exact .non
  | .bool b, _, _, h => by cases h; exact .bl b
  | .int i, _, _, h => by cases h; exact .int i
  | .str x, _, _, h => by cases h; exact .str x
  | .list _, _, z, _ => by simp [noList] at z
  | .tuple ds, _, z, h => by
    cases h with
    | tup h1 h2 => exact .tup (hk _ _ h1) (DpAll.keepT hk ds _ (by simpa [noList] using z) h2)
  | .dict _, _, _, h => by cases h
theorem DpAll.keepT {K : PySem.W.Frag} {H H' : Hp} (hk : ∀ b ys, SqT K H b ys → SqT K H' b ys) : ∀ (ds : List PyData) (vs : List V), noListAll ds = true → DpAll K H vs ds → DpAll K H' vs ds
  | [], _, _, h => by cases h; exact .nil
  | d :: ds, _, z, h => by
    cases h with
    | cons h1 h2 =>
      simp only [noListAll, Bool.and_eq_true] at z
      exact .cons (Dp.keepT hk d _ z.1 h1) (DpAll.keepT hk ds _ z.2 h2)
end
theorem sqt_but {K : PySem.W.Frag} {H H' : Hp} {a b : Addr} {ys : List V} {φ : Heap → Prop} (e : H a = some (.ext φ)) (k : ∀ c, c ≠ a → H' c = H c) (h : SqT K H b ys) : SqT K H' b ys := by
  rcases h with (h | ⟨ob, h⟩) | h
  · exact .inl (.inl (by rw [k b (fun z => by rw [z, e] at h; cases h)]; exact h))
  · exact .inl (.inr ⟨ob, by rw [k b (fun z => by rw [z, e] at h; cases h)]; exact h⟩)
  · exact .inr h
theorem DAt.isX {P : Program} {w : World} {K : PySem.W.Frag} {H : Hp} {a : Addr} {kvs : List (List Key × V)} (h : DAt P w K H a kvs) : ∃ φ, H a = some (.ext φ) := by
  obtain ⟨xs, o, h1, _⟩ := h
  exact ⟨_, h1⟩
theorem DAt.put {P : Program} {w : World} {K : PySem.W.Frag} {H : Hp} {a l : Addr} {kvs : List (List Key × V)} {zs ys : List V} (h : DAt P w K H a kvs) (hl : H l = some (.lst zs)) : DAt P w K (upd H l (.lst ys)) a kvs := by
  obtain ⟨xs, o, h1, h2⟩ := h
  exact ⟨xs, o, by rw [upd_ne (fun e => by rw [e, hl] at h1; cases h1)]; exact h1, h2.keeps fun b zs z => sqt_put z hl⟩
theorem DAt.but {P : Program} {w : World} {K : PySem.W.Frag} {H H' : Hp} {a d : Addr} {kvs ls : List (List Key × V)} (h : DAt P w K H a kvs) (hd : DAt P w K H d ls) (k : ∀ c, c ≠ d → H' c = H c) (ne : a ≠ d) : DAt P w K H' a kvs := by
  obtain ⟨xs, o, h1, h2⟩ := h
  obtain ⟨φ, e⟩ := hd.isX
  exact ⟨xs, o, by rw [k a ne]; exact h1, h2.keeps fun b zs z => sqt_but e k z⟩
theorem ex_but {H H1 H2 : Hp} {d : Addr} (e : Ex H H1) (h : H d = none) (k : ∀ c, c ≠ d → H2 c = H1 c) : Ex H H2 := fun b o hb => by
  have ne : b ≠ d := fun z => by rw [z, h] at hb; cases hb
  rw [k b ne]
  exact e b o hb
section
variable {P : Program} {w : World} {K : PySem.W.Frag} {σ : L2.St} {H H' : Hp} {td ty tv ta tb te tl : TE} {D : Ends} {tz tu : TS} {a b : Addr} {kvs ls : List (List Key × V)} {k : List Key} {v : V} {ds : List PyData}
theorem EvLD.mono (e : Ex H H') (h : EvLD K te σ H ds) : EvLD K te σ H' ds := fun H1 a Q q => h H1 (e.trans a) Q q
theorem eld_call {sp : Sp} {dvs vs : List V} {E : XK} {ta : TA} (h : EvA ta σ H vs) (hs : SpLD K sp (vs ++ dvs) H ds) : EvLD K (tCall sp dvs E ta) σ H ds := fun H1 e Q q =>
  h H1 e _ fun H2 e2 => hs H2 (e.trans e2) Q (fun p xs H3 hp e3 h3 hd => q p xs H3 (fresh_back e2 hp) (e2.trans e3) h3 hd) E
theorem s_dput (h : Ev tv σ H v) (h1 : Ev td σ H (.ref a)) (h2 : Ev ty σ H (.ref b)) (g : DAt P w K H a kvs) (hb : SqT K H b (k.map kV)) (hl : kvs.length < 100000)
    (q : ∀ H1 H2, Ex H H1 → DAt P w K H2 a (putK kvs k v) → (∀ c, c ≠ a → H2 c = H1 c) → D.nx σ H2) : sDPutX P w K td ty tv D σ H :=
  h H (Ex.refl H) _ fun H1 e1 => h1 H1 e1 _ fun H2 e2 => h2 H2 (e1.trans e2) _ fun H3 e3 => ⟨a, kvs, b, k, rfl, rfl, g.ext ((e1.trans e2).trans e3), ex_t ((e1.trans e2).trans e3) hb, sz_lt hl, fun H4 hd hk => q H3 H4 ((e1.trans e2).trans e3) hd hk⟩
theorem s_dputLD (h : EvLD K tv σ H ds) (h1 : Ev td σ H (.ref a)) (h2 : Ev ty σ H (.ref b)) (g : DAt P w K H a kvs) (hb : SqT K H b (k.map kV)) (hl : kvs.length < 100000)
    (q : ∀ p vs H1 H2, H p = none → Ex H H1 → H1 p = some (.lst vs) → DpAll K H1 vs ds → DAt P w K H2 a (putK kvs k (.ref p)) → (∀ c, c ≠ a → H2 c = H1 c) → D.nx σ H2) : sDPutX P w K td ty tv D σ H :=
  h H (Ex.refl H) _ fun p vs H1 hp e1 hv hd => h1 H1 e1 _ fun H2 e2 => h2 H2 (e1.trans e2) _ fun H3 e3 => ⟨a, kvs, b, k, rfl, rfl, g.ext ((e1.trans e2).trans e3), ex_t ((e1.trans e2).trans e3) hb, sz_lt hl, fun H4 hd4 hk => q p vs H3 H4 hp ((e1.trans e2).trans e3) ((e2.trans e3) p _ hv) (DpAll.ext (e2.trans e3) _ _ hd) hd4 hk⟩
theorem q_dput (h : Ev tv σ H v) (h1 : Ev td σ H (.ref a)) (h2 : Ev ty σ H (.ref b)) (g : DAt P w K H a kvs) (hb : SqT K H b (k.map kV)) (hl : kvs.length < 100000)
    (q : ∀ H1 H2, Ex H H1 → DAt P w K H2 a (putK kvs k v) → (∀ c, c ≠ a → H2 c = H1 c) → tz D σ H2) : tSeq (sDPutX P w K td ty tv) tz D σ H := s_dput (D := { D with nx := tz D }) h h1 h2 g hb hl q
theorem q_dputLD (h : EvLD K tv σ H ds) (h1 : Ev td σ H (.ref a)) (h2 : Ev ty σ H (.ref b)) (g : DAt P w K H a kvs) (hb : SqT K H b (k.map kV)) (hl : kvs.length < 100000)
    (q : ∀ p vs H1 H2, H p = none → Ex H H1 → H1 p = some (.lst vs) → DpAll K H1 vs ds → DAt P w K H2 a (putK kvs k (.ref p)) → (∀ c, c ≠ a → H2 c = H1 c) → tz D σ H2) : tSeq (sDPutX P w K td ty tv) tz D σ H := s_dputLD (D := { D with nx := tz D }) h h1 h2 g hb hl q
theorem s_dnew {i : Nat} (q : ∀ p H1, H p = none → Ex H H1 → DAt P w K H1 p [] → D.nx (σ.set i (some (.ref p))) H1) : tAsg (tDNewX P w) (gName i) D σ H := fun p hp => q p _ hp (Ex.new hp) ⟨[], _, upd_same, .nil⟩
theorem q_dnew {i : Nat} (q : ∀ p H1, H p = none → Ex H H1 → DAt P w K H1 p [] → tz D (σ.set i (some (.ref p))) H1) : tSeq (tAsg (tDNewX P w) (gName i)) tz D σ H := s_dnew (D := { D with nx := tz D }) q
/-- l.extend(xs), xs new -/
theorem s_extL {l : Addr} {xs ys : List V} (hl : H l = some (.lst xs)) (ha : Ev ta σ H (.ref l)) (h : EvL te σ H ys) (hz : xs.length + ys.length ≤ 1000000) (q : ∀ p H1, H p = none → Ex H H1 → H1 p = some (.lst ys) → D.nx σ (upd H1 l (.lst (xs ++ ys)))) :
    tDrop (tBM K "list" rExtend ta (tCons te tNil)) D σ H := ha H (Ex.refl H) _ fun H1 e1 =>
  ⟨.inl ⟨rfl, xs, sq_of (e1 l _ hl)⟩, h H1 e1 _ fun p H2 hp e2 h2 => ⟨l, p, xs, ys, rfl, rfl, (e1.trans e2) l _ hl, h2, by rw [sizeLine_eq]; omega, q p H2 (fresh_back e1 hp) (e1.trans e2) h2⟩⟩
/-- a list's truth -/
theorem et_truL {xs : List V} (h : Ev ta σ H (.ref a)) (hx : SqL K H a xs) : EvT (fun σ H Q => ta σ H fun x H' => ∃ k, TruV K x H' k ∧ Q k H') σ H (!xs.isEmpty) := fun H1 e Q q =>
  h H1 e _ fun H2 e2 => ⟨_, .inl ⟨xs, ex_l (e.trans e2) hx, rfl⟩, q H2 e2⟩
/-- x is None, x is not None -/
theorem ev_isN (h : Ev ta σ H v) (hn : Ev tb σ H .non) : Ev (tOp (fun x y H Q => y = .non ∧ Q (.bl (decide (x = .non))) H) ta tb) σ H (.bl (decide (v = .non))) := ev_op h hn fun H1 _ Q q => (show V.non = .non ∧ Q (.bl (decide (v = .non))) H1 from ⟨rfl, q H1 (Ex.refl H1)⟩)
theorem ev_notN (h : Ev ta σ H v) (hn : Ev tb σ H .non) : Ev (tOp (fun x y H Q => y = .non ∧ Q (.bl (!decide (x = .non))) H) ta tb) σ H (.bl (!decide (v = .non))) := ev_op h hn fun H1 _ Q q => (show V.non = .non ∧ Q (.bl (!decide (v = .non))) H1 from ⟨rfl, q H1 (Ex.refl H1)⟩)
/-- for x in reversed(l), l new, whatever it holds -/
theorem s_forRevX {C : List V → Prop} {ta : TA} {j : Nat} (h : ∀ Q : List V → Hp → Prop, (∀ p xs H1, H p = none → Ex H H1 → H1 p = some (.lst xs) → C xs → Q [.ref p] H1) → ta σ H Q) (Pv : List V → Addr → Nat → L2.St → Hp → Prop) (h0 : ∀ xs p H1, H p = none → Ex H H1 → H1 p = some (.lst xs) → C xs → Pv xs p 0 σ H1) (hl : ∀ xs p i σ' H', i ≤ xs.length → Pv xs p i σ' H' → SqL K H' p xs)
    (hs : ∀ xs p i x σ' H', C xs → xs[xs.length - 1 - i]? = some x → i < xs.length → Pv xs p i σ' H' → tu { D with nx := Pv xs p (i + 1), ct := Pv xs p (i + 1), bk := D.nx } (σ'.set j (some x)) H') (hd : ∀ xs p σ' H', C xs → Pv xs p xs.length σ' H' → D.nx σ' H') : tFor (iRev K ta) (gName j) tu D σ H := by
  refine h _ fun p xs H1 hp e1 h1 hc => ⟨p, xs, rfl, sq_of h1, ?_⟩
  refine ⟨fun i m σ H => m = xs.length - i ∧ i ≤ xs.length ∧ Pv xs p i σ H, ⟨xs.length, by simp, Nat.zero_le _, h0 xs p H1 hp e1 h1 hc⟩, ?_⟩
  rintro i m σ H ⟨rfl, hi, pv⟩
  have q := hl xs p i σ H hi pv
  by_cases hlt : i < xs.length
  · have hx : xs[xs.length - 1 - i]? = some (xs[xs.length - 1 - i]'(by omega)) := List.getElem?_eq_getElem (by omega)
    refine .inr ⟨⟨hlt, xs, _, q, hx⟩, Pv xs p (i + 1), fun σ' H' p' => ⟨xs.length - (i + 1), by omega, rfl, hlt, p'⟩, fun x H' y => ?_⟩
    obtain ⟨rfl, hy⟩ := y
    exact hs xs p i x σ _ hc (hy xs q) hlt pv
  · have : i = xs.length := by omega
    subst this
    exact .inl ⟨Nat.le_refl _, hd xs p σ H hc pv⟩
theorem q_forRevX {C : List V → Prop} {ta : TA} {j : Nat} (h : ∀ Q : List V → Hp → Prop, (∀ p xs H1, H p = none → Ex H H1 → H1 p = some (.lst xs) → C xs → Q [.ref p] H1) → ta σ H Q) (Pv : List V → Addr → Nat → L2.St → Hp → Prop) (h0 : ∀ xs p H1, H p = none → Ex H H1 → H1 p = some (.lst xs) → C xs → Pv xs p 0 σ H1) (hl : ∀ xs p i σ' H', i ≤ xs.length → Pv xs p i σ' H' → SqL K H' p xs)
    (hs : ∀ xs p i x σ' H', C xs → xs[xs.length - 1 - i]? = some x → i < xs.length → Pv xs p i σ' H' → tu { D with nx := Pv xs p (i + 1), ct := Pv xs p (i + 1), bk := tz D } (σ'.set j (some x)) H') (hd : ∀ xs p σ' H', C xs → Pv xs p xs.length σ' H' → tz D σ' H') : tSeq (tFor (iRev K ta) (gName j) tu) tz D σ H :=
  s_forRevX (D := { D with nx := tz D }) h Pv h0 hl hs hd
end
end KC
set_option Elab.async false
set_option linter.all false
set_option maxRecDepth 100000
set_option maxHeartbeats 4000000
namespace K07
open PySem PySem.Spec PyProof.Rows L2 GX KC Evl
def topS (i : Nat) : Stmt := PySem.Challenge.pw_kraftroom_k07_whole_alphabetic_codes.main.body.getD i (.Pass ⟨0, 0, 0, 0⟩)
abbrev s_running_sums : Stmt := topS 1
theorem sc_running_sums : FnScope ["weights", "sums", "weight"] ["weights"] (defScope s_running_sums) := ⟨rfl, rfl, rfl, by decide +kernel, rfl, by decide +kernel, by decide +kernel⟩
abbrev s_parted_values : Stmt := topS 2
theorem sc_parted_values : FnScope ["table", "start", "end", "middle"] ["table", "start", "end"] (defScope s_parted_values) := ⟨rfl, rfl, rfl, by decide +kernel, rfl, by decide +kernel, by decide +kernel⟩
abbrev s_range_values : Stmt := topS 3
theorem sc_range_values : FnScope ["weights", "sums", "count", "table", "start", "width", "end"] ["weights"] (defScope s_range_values) := ⟨rfl, rfl, rfl, by decide +kernel, rfl, by decide +kernel, by decide +kernel⟩
abbrev s_range_cut : Stmt := topS 4
theorem sc_range_cut : FnScope ["table", "start", "end", "found"] ["table", "start", "end"] (defScope s_range_cut) := ⟨rfl, rfl, rfl, by decide +kernel, rfl, by decide +kernel, by decide +kernel⟩
abbrev s_alphabetic_words : Stmt := topS 5
theorem sc_alphabetic_words : FnScope ["weights", "table", "found", "waiting", "start", "end", "word", "middle"] ["weights"] (defScope s_alphabetic_words) := ⟨rfl, rfl, rfl, by decide +kernel, rfl, by decide +kernel, by decide +kernel⟩
abbrev s_is_range_low_enough : Stmt := topS 6
theorem sc_is_range_low_enough : FnScope ["sums", "table", "start", "end", "weight"] ["sums", "table", "start", "end"] (defScope s_is_range_low_enough) := ⟨rfl, rfl, rfl, by decide +kernel, rfl, by decide +kernel, by decide +kernel⟩
abbrev s_shows_least : Stmt := topS 7
theorem sc_shows_least : FnScope ["weights", "cost", "table", "whole", "sums"] ["weights", "cost", "table"] (defScope s_shows_least) := ⟨rfl, rfl, rfl, by decide +kernel, rfl, by decide +kernel, by decide +kernel⟩
abbrev s_law_cell : Stmt := topS 9
theorem sc_law_cell : FnScope ["script", "k"] ["script", "k"] (defScope s_law_cell) := ⟨rfl, rfl, rfl, by decide +kernel, rfl, by decide +kernel, by decide +kernel⟩
abbrev s_law_weights : Stmt := topS 10
theorem sc_law_weights : FnScope ["script", "first", "many", "weights", "k", "cell", "weight"] ["script", "first", "many"] (defScope s_law_weights) := ⟨rfl, rfl, rfl, by decide +kernel, rfl, by decide +kernel, by decide +kernel⟩
abbrev s_law_ranks : Stmt := topS 11
theorem sc_law_ranks : FnScope ["weights", "order", "turn", "best", "k"] ["weights"] (defScope s_law_ranks) := ⟨rfl, rfl, rfl, by decide +kernel, rfl, by decide +kernel, by decide +kernel⟩
abbrev s_law_least_limit : Stmt := topS 12
theorem sc_law_least_limit : FnScope ["many", "limit", "turn"] ["many"] (defScope s_law_least_limit) := ⟨rfl, rfl, rfl, by decide +kernel, rfl, by decide +kernel, by decide +kernel⟩
abbrev s_law_choices : Stmt := topS 13
theorem sc_law_choices : FnScope ["weights", "limit", "stage", "depth", "m", "k", "n", "order", "found", "a", "allowed", "rest", "symbol"] ["weights", "limit", "stage"] (defScope s_law_choices) := ⟨rfl, rfl, rfl, by decide +kernel, rfl, by decide +kernel, by decide +kernel⟩
abbrev s_law_trees : Stmt := topS 14
theorem sc_law_trees : FnScope ["weights", "many", "prices", "size", "start", "found", "part", "a", "b"] ["weights"] (defScope s_law_trees) := ⟨rfl, rfl, rfl, by decide +kernel, rfl, by decide +kernel, by decide +kernel⟩
abbrev s_law_values : Stmt := topS 15
theorem sc_law_values : FnScope ["weights", "table", "size", "start", "best", "k", "price"] ["weights"] (defScope s_law_values) := ⟨rfl, rfl, rfl, by decide +kernel, rfl, by decide +kernel, by decide +kernel⟩
abbrev s_law_cuts : Stmt := topS 16
theorem sc_law_cuts : FnScope ["table", "many", "words", "k", "ranges", "turn", "start", "stop", "best", "price"] ["table", "many"] (defScope s_law_cuts) := ⟨rfl, rfl, rfl, by decide +kernel, rfl, by decide +kernel, by decide +kernel⟩
abbrev s_law_judged : Stmt := topS 17
theorem sc_law_judged : FnScope ["weights", "price", "table", "many", "start", "stop", "k"] ["weights", "price", "table"] (defScope s_law_judged) := ⟨rfl, rfl, rfl, by decide +kernel, rfl, by decide +kernel, by decide +kernel⟩
abbrev s_law : Stmt := topS 18
theorem sc_law : FnScope ["script", "cell", "many", "weights", "table", "given", "words", "k", "price", "pick", "start", "key", "other", "wanted", "told"] ["script"] (defScope s_law) := ⟨rfl, rfl, rfl, by decide +kernel, rfl, by decide +kernel, by decide +kernel⟩
section
variable {P : Program} {w : World} {K : PySem.W.Frag} {mg : Str → Option Value} {base : Heap}
theorem ok_cell {f : Addr} {fd : FuncData} {k : Nat} (F : Fun K "_law_cell" "_law_cell" s_law_cell f fd) (B : Bs mg) : FnOk P w K mg base CX0 (k + 1) f fd ["script", "k"] (spCell K) := by
  refine F.ok sc_law_cell (fun vs H Q E h => ?_) (fun cdv A outer s H vs Q E hr h => ?_)
  · obtain ⟨l, ns, j, rfl, _⟩ := h
    rfl
  · obtain ⟨l, ns, j, rfl, hs, q⟩ := h
    refine ⟨_, (pss_cons (ps_if (pt_cmpR op_lt (pv 1) (pe_callB call_len_seq (by rfl) B.len PySem.boot_len (pa_cons (pv 0) pa_nil)) (nomark _)) (pss_one (ps_ret (pe_callTy call_int1 (by rfl) B.int (by decide +kernel) (pa_cons (pe_ix ix_list (pv 0) (pv 1) (fun _ _ => rfl)) pa_nil)))) pss_nil)
      (pss_one (ps_ret pe_int))), ?_⟩
    refine ⟨_, rfl, _, rfl, l, _, rfl, .inl hs, _, _, rfl, rfl, _, rfl, ?_⟩
    by_cases hj : j < ns.length
    · have hd : decide ((j : Int) < ((ns.map V.int).length : Int)) = true := decide_eq_true (by rw [List.length_map]; omega)
      rw [hd]
      exact ⟨_, rfl, _, rfl, l, _, _, _, rfl, rfl, hs, atI_cell hj, .inl ⟨_, rfl, q⟩⟩
    · have hd : decide ((j : Int) < ((ns.map V.int).length : Int)) = false := decide_eq_false (by rw [List.length_map]; omega)
      rw [hd]
      rw [cell_out hj] at q
      exact q
/-! ### the weights -/
def weightOf (c : Int) : Int := if c % 23 = 7 then c / 23 % 1000001 else if c % 5 = 1 then c / 5 % 100 else c % 9
def weightsL (ns : List Int) (first n : Nat) : List Int := (List.range n).map fun k => weightOf (cellOf ns (first + k))
theorem weightsL_succ (ns : List Int) (first n : Nat) : weightsL ns first (n + 1) = weightsL ns first n ++ [weightOf (cellOf ns (first + n))] := by
  unfold weightsL
  rw [List.range_succ, List.map_append] <;> rfl
theorem weightsL_len (ns : List Int) (first n : Nat) : (weightsL ns first n).length = n := by simp [weightsL]
def spWeights (K : PySem.W.Frag) : Sp := fun vs H Q _ => ∃ (l : Addr) (ns : List Int) (first n : Nat), vs = [.ref l, .int (first : Int), .int (n : Int)] ∧ SqL K H l (ns.map V.int) ∧ n ≤ 1000 ∧ RetL ((weightsL ns first n).map V.int) H Q
theorem spv_cell {H : Hp} {l : Addr} {ns : List Int} {z : Int} {j : Nat} (hs : SqL K H l (ns.map V.int)) (e : z = (j : Int)) : SpV (spCell K) ([.ref l, .int z] ++ []) H (.int (cellOf ns j)) := fun H1 e1 Q q E => ⟨l, ns, j, by rw [e]; rfl, ex_l e1 hs, q H1 (Ex.refl H1)⟩
theorem ok_weights {f : Addr} {fd : FuncData} {k : Nat} (F : Fun K "_law_weights" "_law_weights" s_law_weights f fd) (B : Bs mg) (C_law_cell : Cal P w K mg base "_law_cell" 1 ["script", "k"] (spCell K)) : FnOk P w K mg base CX0 (k + 2) f fd ["script", "first", "many"] (spWeights K) := by
  refine F.ok sc_law_weights (fun vs H Q E h => ?_) (fun cdv A outer s H vs Q E hr h => ?_)
  · obtain ⟨l, ns, first, n, rfl, _⟩ := h
    rfl
  · obtain ⟨l, ns, first, n, rfl, hs, hn, q⟩ := h
    refine ⟨_, (pss_cons (ps_set (i := 3) sc_law_weights.nd rfl (Or.inl rfl) (pe_lst pa_nil))
      (pss_cons (ps_for PassesOwn.never rfl (pi_range1 (by rfl) B.range (pa_cons (pv 2) pa_nil)) (pg_name (i := 4) sc_law_weights.nd rfl (Or.inl rfl)) (pss_cons (ps_set (i := 5) sc_law_weights.nd rfl (Or.inl rfl) (pe_callC C_law_cell (hr.mono (by omega)) (by rfl) (pa_cons (pv 0) (pa_cons (pe_op op_add (pv 1) (pv 4)) pa_nil))))
      (pss_cons (ps_set (i := 6) sc_law_weights.nd rfl (Or.inl rfl) (pe_op op_mod (pv 5) pe_int))
      (pss_cons (ps_if (pt_cmpR op_eq (pe_op op_mod (pv 5) pe_int) pe_int (nomark _)) (pss_one (ps_set (i := 6) sc_law_weights.nd rfl (Or.inl rfl) (pe_op op_mod (pe_op op_fdiv (pv 5) pe_int) pe_int))) pss_nil)
      (pss_cons (ps_if (pt_cmpR op_eq (pe_op op_mod (pv 5) pe_int) pe_int (nomark _)) (pss_one (ps_set (i := 6) sc_law_weights.nd rfl (Or.inl rfl) (pe_op op_mod (pe_op op_fdiv (pv 5) pe_int) pe_int))) pss_nil)
      (pss_one (ps_expr (pe_bm PySem.F.plainAttrs_list PySem.F.slot_list_append PySem.F.type_list_append mt_append (pv 3) (pa_cons (pv 6) pa_nil)))))))))
      (pss_one (ps_ret (pv 3))))), ?_⟩
    refine q_asgL (el_lst ea_nil (by decide)) fun p H1 hp e1 h1 => ?_
    refine q_forR1 (n := (n : Int)) (ea1 (ev_var rfl)) ⟨by omega, by omega⟩
      (fun i σ H' => ∃ a b c, σ = [some (.ref l), some (.int (first : Int)), some (.int (n : Int)), some (.ref p), a, b, c] ∧ Ex H H' ∧ H' p = some (.lst ((weightsL ns first i).map V.int)))
      (fun H2 e2 => ⟨none, none, none, rfl, e1.trans e2, e2 p _ h1⟩) ?_ ?_
    · rintro i σ H' hi ⟨a, b, c, rfl, eh, hl⟩
      have hs' := ex_l eh hs
      -- cell = _law_cell(script, first + k)
      refine q_asg (ev_call (ea2 (ev_var rfl) (ev_op (ev_var rfl) (ev_var rfl) rv_I0)) (spv_cell (j := first + i) hs' (by omega))) fun H2 e2 => ?_
      generalize hc : cellOf ns (first + i) = z
      -- weight = cell % 9
      refine q_asg (ev_op (ev_var rfl) ev_c (rv_mod (by decide))) fun H3 e3 => ?_
      refine q_ifAsg (v := .int (if z % 5 = 1 then z / 5 % 100 else z % 9)) (et_test (ev_op (ev_op (ev_var rfl) ev_c (rv_mod (by decide))) ev_c (rv_eq rfl))) (fun hb => ?_) (fun hb => ?_) fun H4 e4 => ?_
      · have hb' : z % 5 = 1 := V.int.inj (of_decide_eq_true hb)
        rw [if_pos hb']
        exact ev_op (ev_op (ev_var rfl) ev_c (rv_div (by decide) (by decide))) ev_c (rv_mod (by decide))
      · have hb' : ¬ z % 5 = 1 := fun e => of_decide_eq_false hb (congrArg V.int e)
        rw [if_neg hb']
        rfl
      refine q_ifAsg (v := .int (weightOf z)) (et_test (ev_op (ev_op (ev_var rfl) ev_c (rv_mod (by decide))) ev_c (rv_eq rfl))) (fun hb => ?_) (fun hb => ?_) fun H5 e5 => ?_
      · have hb' : z % 23 = 7 := V.int.inj (of_decide_eq_true hb)
        unfold weightOf
        rw [if_pos hb']
        exact ev_op (ev_op (ev_var rfl) ev_c (rv_div (by decide) (by decide))) ev_c (rv_mod (by decide))
      · have hb' : ¬ z % 23 = 7 := fun e => of_decide_eq_false hb (congrArg V.int e)
        unfold weightOf
        rw [if_neg hb']
        rfl
      have e25 : Ex H' H5 := ((e2.trans e3).trans e4).trans e5
      refine s_app (e25 p _ hl) (ev_var rfl) (ev_var rfl) (by rw [List.length_map, weightsL_len]; omega) fun H6 e6 => ?_
      refine ⟨_, _, _, rfl, Ex.mut ((eh.trans e25).trans e6) hp, ?_⟩
      rw [upd_same, weightsL_succ, hc, List.map_append]
      rfl
    · rintro σ H' ⟨a, b, c, rfl, eh, hl⟩
      have hn' : ((n : Int)).toNat = n := by omega
      rw [hn'] at hl
      exact s_ret (ev_var rfl) fun H2 e2 => q p H2 hp (eh.trans e2) (e2 p _ hl)
end
end K07
set_option linter.all false
/-! The mathematics of ranks, rests and choices: plain lists. -/
namespace M03
def wAt (ws : List Int) (k : Nat) : Int := ws.getD k 0
/-- k comes before j -/
def Rk (ws : List Int) (k j : Nat) : Prop := wAt ws j < wAt ws k ∨ (wAt ws k = wAt ws j ∧ k < j)
structure IsRank (ws : List Int) (ord : List Nat) : Prop where
  pw : ord.Pairwise (Rk ws)
  mem : ∀ k, k ∈ ord ↔ k < ws.length
theorem Rk.irrefl {ws : List Int} {k : Nat} (h : Rk ws k k) : False := by
  unfold Rk at h; omega
theorem Rk.asymm {ws : List Int} {k j : Nat} (h : Rk ws k j) (h2 : Rk ws j k) : False := by
  unfold Rk at h h2; omega
theorem Rk.trans {ws : List Int} {k j i : Nat} (h : Rk ws k j) (h2 : Rk ws j i) : Rk ws k i := by
  unfold Rk at *; omega
theorem Rk.total {ws : List Int} {k j : Nat} (h : k ≠ j) : Rk ws k j ∨ Rk ws j k := by
  unfold Rk; omega
theorem uniq (ws : List Int) : ∀ (a b : List Nat), a.Pairwise (Rk ws) → b.Pairwise (Rk ws) → (∀ k, k ∈ a ↔ k ∈ b) → a = b
  | [], [], _, _, _ => rfl
  | [], y :: b, _, _, h => absurd ((h y).mpr List.mem_cons_self) (by simp)
  | x :: a, [], _, _, h => absurd ((h x).mp List.mem_cons_self) (by simp)
  | x :: a, y :: b, ha, hb, h => by
    have ha' := List.pairwise_cons.mp ha
    have hb' := List.pairwise_cons.mp hb
    have e : x = y := by
      rcases List.mem_cons.mp ((h x).mp List.mem_cons_self) with e | e
      · exact e
      · rcases List.mem_cons.mp ((h y).mpr List.mem_cons_self) with e2 | e2
        · exact e2.symm
        · exact (Rk.asymm (hb'.1 x e) (ha'.1 y e2)).elim
    subst e
    rw [uniq ws a b ha'.2 hb'.2 fun k => ?_]
    constructor
    · intro hk
      rcases List.mem_cons.mp ((h k).mp (List.mem_cons_of_mem _ hk)) with e | e
      · subst e; exact (Rk.irrefl (ha'.1 _ hk)).elim
      · exact e
    · intro hk
      rcases List.mem_cons.mp ((h k).mpr (List.mem_cons_of_mem _ hk)) with e | e
      · subst e; exact (Rk.irrefl (hb'.1 _ hk)).elim
      · exact e
theorem IsRank.uniq {ws : List Int} {a b : List Nat} (ha : IsRank ws a) (hb : IsRank ws b) : a = b := M03.uniq ws a b ha.pw hb.pw fun k => (ha.mem k).trans (hb.mem k).symm
def leK (ws : List Int) (k j : Nat) : Bool := decide (wAt ws j < wAt ws k ∨ (wAt ws k = wAt ws j ∧ k ≤ j))
def rankL (ws : List Int) : List Nat := (List.range ws.length).mergeSort (leK ws)
theorem rank_perm (ws : List Int) : (rankL ws).Perm (List.range ws.length) := List.mergeSort_perm _ _
theorem rank_is (ws : List Int) : IsRank ws (rankL ws) := by
  refine ⟨?_, fun k => ?_⟩
  · have h1 : (rankL ws).Pairwise fun a b => leK ws a b = true := List.pairwise_mergeSort (fun a b c => by unfold leK; simp only [decide_eq_true_eq]; omega) (fun a b => by unfold leK; simp only [Bool.or_eq_true, decide_eq_true_eq]; omega) _
    have h2 : (rankL ws).Nodup := (rank_perm ws).nodup_iff.mpr List.nodup_range
    have h3 := h1.and h2
    refine h3.imp fun {a b} h => ?_
    obtain ⟨h4, h5⟩ := h
    unfold leK at h4
    unfold Rk
    have h6 := of_decide_eq_true h4
    have h7 : a ≠ b := h5
    omega
  · rw [(rank_perm ws).mem_iff, List.mem_range]
theorem rank_len (ws : List Int) : (rankL ws).length = ws.length := by rw [(rank_perm ws).length_eq, List.length_range]
theorem rank_lt {ws : List Int} {k : Nat} (h : k ∈ rankL ws) : k < ws.length := ((rank_is ws).mem k).mp h
/-- choosing the best of the rest again and again -/
structure Part (ws : List Int) (ord : List Nat) : Prop where
  pw : ord.Pairwise (Rk ws)
  lt : ∀ k ∈ ord, k < ws.length
  before : ∀ k ∈ ord, ∀ j, j < ws.length → j ∉ ord → Rk ws k j
theorem Part.nil (ws : List Int) : Part ws [] := ⟨.nil, by simp, by simp⟩
/-- b: the best among the first i that ord has not -/
def Best (ws : List Int) (ord : List Nat) (i : Nat) : Option Nat → Prop
  | none => ∀ j, j < i → j ∈ ord
  | some b => b < i ∧ b ∉ ord ∧ ∀ j, j < i → j ∉ ord → j ≠ b → Rk ws b j
theorem Part.add {ws : List Int} {ord : List Nat} {b : Nat} (p : Part ws ord) (h : Best ws ord ws.length (some b)) : Part ws (ord ++ [b]) := by
  obtain ⟨h1, h2, h3⟩ := h
  refine ⟨List.pairwise_append.mpr ⟨p.pw, List.pairwise_singleton _ _, fun a ha c hc => ?_⟩, fun k hk => ?_, fun k hk j hj hn => ?_⟩
  · rw [List.mem_singleton.mp hc]
    exact p.before a ha b h1 h2
  · rcases List.mem_append.mp hk with h | h
    · exact p.lt k h
    · rw [List.mem_singleton.mp h]; exact h1
  · have hn1 : j ∉ ord := fun z => hn (List.mem_append_left _ z)
    have hn2 : j ≠ b := fun z => hn (by rw [z]; exact List.mem_append_right _ (List.mem_singleton.mpr rfl))
    rcases List.mem_append.mp hk with h | h
    · exact p.before k h j hj hn1
    · rw [List.mem_singleton.mp h]
      exact h3 j hj hn1 hn2
theorem nodup_sub : ∀ (l m : List Nat), l.Nodup → (∀ x ∈ l, x ∈ m) → l.length ≤ m.length
  | [], _, _, _ => Nat.zero_le _
  | x :: l, m, h, hs => by
    have h' := List.nodup_cons.mp h
    have hx := hs x List.mem_cons_self
    have h1 := nodup_sub l (m.erase x) h'.2 fun y hy => (List.mem_erase_of_ne (fun e => h'.1 (by rw [← e]; exact hy))).mpr (hs y (List.mem_cons_of_mem _ hy))
    rw [List.length_erase_of_mem hx] at h1
    have h2 := List.length_pos_of_mem hx
    simp only [List.length_cons]
    omega
theorem nodup_le {ord : List Nat} {n : Nat} (h : ord.Nodup) (hl : ∀ k ∈ ord, k < n) : ord.length ≤ n := by
  have h2 := nodup_sub ord (List.range n) h fun k hk => List.mem_range.mpr (hl k hk)
  rwa [List.length_range] at h2
theorem Part.nodup {ws : List Int} {ord : List Nat} (p : Part ws ord) : ord.Nodup := p.pw.imp fun {a b} h e => by subst e; exact h.irrefl
/-- a best one is there while ord is not whole -/
theorem Part.some {ws : List Int} {ord : List Nat} (p : Part ws ord) (h : ord.length < ws.length) {o : Option Nat} (hb : Best ws ord ws.length o) : ∃ b, o = .some b := by
  cases o with
  | some b => exact ⟨b, rfl⟩
  | none =>
    have h2 := nodup_sub (List.range ws.length) ord List.nodup_range fun k hk => hb k (List.mem_range.mp hk)
    rw [List.length_range] at h2
    omega
theorem Part.whole {ws : List Int} {ord : List Nat} (p : Part ws ord) (h : ord.length = ws.length) : ord = rankL ws := by
  refine IsRank.uniq ⟨p.pw, fun k => ⟨p.lt k, fun hk => ?_⟩⟩ (rank_is ws)
  by_cases hm : k ∈ ord
  · exact hm
  · exfalso
    have h2 : (k :: ord).Nodup := List.nodup_cons.mpr ⟨hm, p.nodup⟩
    have h3 := nodup_le h2 (n := ws.length) fun j hj => by
      rcases List.mem_cons.mp hj with e | e
      · rw [e]; exact hk
      · exact p.lt j e
    simp only [List.length_cons] at h3
    omega
theorem Best.zero (ws : List Int) (ord : List Nat) : Best ws ord 0 none := fun j h => absurd h (Nat.not_lt_zero j)
theorem Best.skip {ws : List Int} {ord : List Nat} {i : Nat} {o : Option Nat} (h : Best ws ord i o) (hi : i ∈ ord) : Best ws ord (i + 1) o := by
  cases o with
  | none =>
    intro j hj
    by_cases e : j = i
    · rw [e]; exact hi
    · exact h j (by omega)
  | some b =>
    obtain ⟨h1, h2, h3⟩ := h
    refine ⟨by omega, h2, fun j hj hn hb => ?_⟩
    by_cases e : j = i
    · rw [e] at hn; exact absurd hi hn
    · exact h3 j (by omega) hn hb
theorem Best.first {ws : List Int} {ord : List Nat} {i : Nat} (h : Best ws ord i none) (hi : i ∉ ord) : Best ws ord (i + 1) (some i) := by
  refine ⟨by omega, hi, fun j hj hn hb => ?_⟩
  exact absurd (h j (by omega)) hn
theorem Best.take {ws : List Int} {ord : List Nat} {i b : Nat} (h : Best ws ord i (some b)) (hi : i ∉ ord) (hw : wAt ws b < wAt ws i) : Best ws ord (i + 1) (some i) := by
  obtain ⟨h1, h2, h3⟩ := h
  refine ⟨by omega, hi, fun j hj hn hb => ?_⟩
  by_cases e : j = b
  · rw [e]; exact .inl hw
  · have := h3 j (by omega) hn e
    exact Rk.trans (.inl hw) this
theorem Best.keep {ws : List Int} {ord : List Nat} {i b : Nat} (h : Best ws ord i (some b)) (hw : ¬ wAt ws b < wAt ws i) : Best ws ord (i + 1) (some b) := by
  obtain ⟨h1, h2, h3⟩ := h
  refine ⟨by omega, h2, fun j hj hn hb => ?_⟩
  by_cases e : j = i
  · rw [e]; unfold Rk; omega
  · exact h3 j (by omega) hn hb

/-! ### rests -/
def restL : List Int → List Int
  | [] => [0]
  | v :: r => (v + (restL r).headD 0) :: restL r
theorem restL_len : ∀ vs : List Int, (restL vs).length = vs.length + 1
  | [] => rfl
  | v :: r => by simp [restL, restL_len r]
def ranked (ws : List Int) : List Int := (rankL ws).map (wAt ws)
theorem ranked_len (ws : List Int) : (ranked ws).length = ws.length := by simp [ranked, rank_len]
theorem ranked_perm (ws : List Int) : (ranked ws).Perm ws := by
  have h := (rank_perm ws).map (wAt ws)
  have e : (List.range ws.length).map (wAt ws) = ws := by
    refine List.ext_getElem (by simp) fun i h1 h2 => ?_
    simp [wAt, List.getD_eq_getElem?_getD, h2]
  rw [e] at h
  exact h
theorem ranked_desc (ws : List Int) : (ranked ws).Pairwise (fun a b => b ≤ a) := by
  unfold ranked
  refine List.pairwise_map.mpr ((rank_is ws).pw.imp fun {a b} h => ?_)
  unfold Rk at h
  omega
theorem sorted_uniq : ∀ (a b : List Int), a.Pairwise (· ≤ ·) → b.Pairwise (· ≤ ·) → a.Perm b → a = b
  | [], b, _, _, h => (List.Perm.nil_eq h)
  | x :: a, [], _, _, h => absurd h.length_eq (by simp)
  | x :: a, y :: b, ha, hb, h => by
    have ha' := List.pairwise_cons.mp ha
    have hb' := List.pairwise_cons.mp hb
    have e : x = y := by
      have h1 : x ≤ y := by
        rcases List.mem_cons.mp (h.mem_iff.mpr (List.mem_cons_self (a := y) (l := b))) with e | e
        · omega
        · exact ha'.1 y e
      have h2 : y ≤ x := by
        rcases List.mem_cons.mp (h.mem_iff.mp (List.mem_cons_self (a := x) (l := a))) with e | e
        · omega
        · exact hb'.1 x e
      omega
    subst e
    rw [sorted_uniq a b ha'.2 hb'.2 h.cons_inv]
theorem asc_is {ws asc : List Int} (h : asc.Perm ws) (hs : asc.Pairwise (· ≤ ·)) : asc = (ranked ws).reverse := by
  refine sorted_uniq _ _ hs (List.pairwise_reverse.mpr (ranked_desc ws)) ?_
  exact h.trans ((ranked_perm ws).symm.trans (List.reverse_perm _).symm)
/-- sums of the beginnings -/
def pre : List Int → List Int
  | [] => [0]
  | v :: r => 0 :: (pre r).map (v + ·)
def sumsA : List Int → List Int → List Int := fun acc vs => vs.foldl (fun acc v => acc ++ [acc.getLastD 0 + v]) acc
theorem restL_snoc : ∀ (vs : List Int), ∀ l, l = vs.reverse → ∀ v, restL (v :: vs) = (v + (restL vs).headD 0) :: restL vs := fun _ _ _ _ => rfl
/-! ### the choices -/
abbrev Nxt := Option (Int × Int × Int)
def chOne (sums : List Int) (limit depth m k : Int) (a : Nat) : Option (Int × Int × Nxt) :=
  let n : Int := (sums.length : Int) - 1
  let ok : Bool := if depth = limit then decide ((a : Int) = n - m) else (decide (0 < depth) || decide ((a : Int) = 0))
  if ok && decide (m + a = n) then some (a, 0, none)
  else if ok && decide ((a : Int) < k) then some (a, sums.getD (m + a).toNat 0, some (depth + 1, m + a, if n - m - a < 2 * (k - a) then n - m - a else 2 * (k - a)))
  else none
def chN (sums : List Int) (m k : Int) : Nat := ((if (sums.length : Int) - 1 - m < k then (sums.length : Int) - 1 - m else k) + 1).toNat
def chL (sums : List Int) (limit depth m k : Int) : List (Int × Int × Nxt) := (List.range (chN sums m k)).filterMap (chOne sums limit depth m k)
end M03
set_option linter.all false
/-! The mathematics of prefix codes: lengths, room, canonical words. -/
namespace M01
def lnA (ls : List Int) (k : Nat) : Nat := (ls.getD k 0).toNat
/-- lengths from 0 to 20 -/
def Lok (ls : List Int) : Prop := ∀ x ∈ ls, 0 ≤ x ∧ x ≤ 20
def share (x : Int) : Int := if x = 0 then 0 else (2 : Int) ^ (20 - x.toNat)
def kraft (ls : List Int) : Int := (ls.map share).sum
def roomL (ls : List Int) : Int := 1048576 - kraft ls
theorem kraft_app (a b : List Int) : kraft (a ++ b) = kraft a + kraft b := by
  unfold kraft
  rw [List.map_append, List.sum_append]
theorem pow_nn (n : Nat) : (0 : Int) ≤ 2 ^ n := Int.le_of_lt (Int.pow_pos (by decide))
theorem share_nn (x : Int) : 0 ≤ share x := by
  unfold share
  split
  · exact Int.le_refl _
  · exact pow_nn _
theorem pow20 : ∀ l : Nat, l ≤ 20 → (1048576 : Int) / (1 * 2 ^ l) = 2 ^ (20 - l) := fun l h => by
  have : ∀ l : Fin 21, (1048576 : Int) / (1 * 2 ^ l.val) = 2 ^ (20 - l.val) := by decide
  exact this ⟨l, by omega⟩
theorem share_bd (x : Int) : share x ≤ 1048576 := by
  unfold share
  split
  · decide
  · have : ∀ y : Fin 21, (2 : Int) ^ y.val ≤ 1048576 := by decide
    exact this ⟨20 - x.toNat, by omega⟩
theorem kraft_zero : ∀ ls : List Int, (∀ x ∈ ls, x = 0) → kraft ls = 0
  | [], _ => rfl
  | x :: r, h => by
    have h1 := kraft_zero r fun y hy => h y (List.mem_cons_of_mem _ hy)
    have h2 := h x List.mem_cons_self
    subst h2
    show share 0 + kraft r = 0
    rw [h1]
    rfl
/-! ### the order: by length, then by symbol -/
def Lx (ls : List Int) (k j : Nat) : Prop := lnA ls k < lnA ls j ∨ (lnA ls k = lnA ls j ∧ k < j)
theorem Lx.irrefl {ls : List Int} {k : Nat} (h : Lx ls k k) : False := by
  unfold Lx at h; omega
theorem Lx.asymm {ls : List Int} {k j : Nat} (h : Lx ls k j) (h2 : Lx ls j k) : False := by
  unfold Lx at h h2; omega
theorem uniq (ls : List Int) : ∀ (a b : List Nat), a.Pairwise (Lx ls) → b.Pairwise (Lx ls) → (∀ k, k ∈ a ↔ k ∈ b) → a = b
  | [], [], _, _, _ => rfl
  | [], y :: b, _, _, h => absurd ((h y).mpr List.mem_cons_self) (by simp)
  | x :: a, [], _, _, h => absurd ((h x).mp List.mem_cons_self) (by simp)
  | x :: a, y :: b, ha, hb, h => by
    have ha' := List.pairwise_cons.mp ha
    have hb' := List.pairwise_cons.mp hb
    have e : x = y := by
      rcases List.mem_cons.mp ((h x).mp List.mem_cons_self) with e | e
      · exact e
      · rcases List.mem_cons.mp ((h y).mpr List.mem_cons_self) with e2 | e2
        · exact e2.symm
        · exact (Lx.asymm (hb'.1 x e) (ha'.1 y e2)).elim
    subst e
    rw [uniq ls a b ha'.2 hb'.2 fun k => ?_]
    constructor
    · intro hk
      rcases List.mem_cons.mp ((h k).mp (List.mem_cons_of_mem _ hk)) with e | e
      · subst e; exact (Lx.irrefl (ha'.1 _ hk)).elim
      · exact e
    · intro hk
      rcases List.mem_cons.mp ((h k).mpr (List.mem_cons_of_mem _ hk)) with e | e
      · subst e; exact (Lx.irrefl (hb'.1 _ hk)).elim
      · exact e
structure IsOrd (ls : List Int) (o : List Nat) : Prop where
  pw : o.Pairwise (Lx ls)
  mem : ∀ k, k ∈ o ↔ k < ls.length ∧ 0 < lnA ls k
/-- the order as far as (L, k) -/
structure Proc (ls : List Int) (L k : Nat) (o : List Nat) : Prop where
  pw : o.Pairwise (Lx ls)
  mem : ∀ s, s ∈ o ↔ s < ls.length ∧ 0 < lnA ls s ∧ (lnA ls s < L ∨ (lnA ls s = L ∧ s < k))
theorem Proc.zero (ls : List Int) : Proc ls 1 0 [] := ⟨.nil, fun s => by simp; omega⟩
theorem Proc.skip {ls : List Int} {L k : Nat} {o : List Nat} (h : Proc ls L k o) (e : lnA ls k ≠ L) : Proc ls L (k + 1) o := ⟨h.pw, fun s => by
  rw [h.mem]
  constructor
  · rintro ⟨a, b, c⟩
    exact ⟨a, b, by omega⟩
  · rintro ⟨a, b, c⟩
    refine ⟨a, b, ?_⟩
    rcases c with c | ⟨c, d⟩
    · exact .inl c
    · by_cases z : s = k
      · subst z; exact absurd c e
      · exact .inr ⟨c, by omega⟩⟩
theorem Proc.add {ls : List Int} {L k : Nat} {o : List Nat} (h : Proc ls L k o) (e : lnA ls k = L) (hL : 0 < L) (hk : k < ls.length) : Proc ls L (k + 1) (o ++ [k]) ∧ k ∉ o := by
  have hn : k ∉ o := fun z => by have := (h.mem k).mp z; omega
  refine ⟨⟨List.pairwise_append.mpr ⟨h.pw, List.pairwise_singleton _ _, fun a ha b hb => ?_⟩, fun s => ?_⟩, hn⟩
  · rw [List.mem_singleton.mp hb]
    have := (h.mem a).mp ha
    unfold Lx
    omega
  · rw [List.mem_append, h.mem, List.mem_singleton]
    constructor
    · rintro (⟨a, b, c⟩ | rfl)
      · exact ⟨a, b, by omega⟩
      · exact ⟨hk, by omega, by omega⟩
    · rintro ⟨a, b, c⟩
      by_cases z : s = k
      · exact .inr z
      · exact .inl ⟨a, b, by omega⟩
theorem Proc.next {ls : List Int} {L : Nat} {o : List Nat} (h : Proc ls L ls.length o) : Proc ls (L + 1) 0 o := ⟨h.pw, fun s => by
  rw [h.mem]
  constructor
  · rintro ⟨a, b, c⟩
    exact ⟨a, b, by omega⟩
  · rintro ⟨a, b, c⟩
    exact ⟨a, b, by omega⟩⟩
theorem ln_le {ls : List Int} (h : Lok ls) (k : Nat) : lnA ls k ≤ 20 := by
  unfold lnA
  by_cases hk : k < ls.length
  · have := h _ (List.getElem_mem hk)
    rw [List.getD_eq_getElem?_getD, List.getElem?_eq_getElem hk]
    show (ls[k]).toNat ≤ 20
    omega
  · rw [List.getD_eq_getElem?_getD, List.getElem?_eq_none (by omega)]
    decide
theorem Proc.whole {ls : List Int} {o : List Nat} (hl : Lok ls) (h : Proc ls 21 0 o) : IsOrd ls o := ⟨h.pw, fun s => by
  rw [h.mem]
  have := ln_le hl s
  constructor
  · rintro ⟨a, b, c⟩
    exact ⟨a, b⟩
  · rintro ⟨a, b⟩
    exact ⟨a, b, by omega⟩⟩
theorem IsOrd.uniq {ls : List Int} {a b : List Nat} (ha : IsOrd ls a) (hb : IsOrd ls b) : a = b := M01.uniq ls a b ha.pw hb.pw fun k => (ha.mem k).trans (hb.mem k).symm
/-! ### words -/
def bitsL (x l : Nat) : List Int := (List.range l).map fun j => ((x / 2 ^ (l - 1 - j) % 2 : Nat) : Int)
theorem bits_len (x l : Nat) : (bitsL x l).length = l := by simp [bitsL]
def xs (ls : List Int) (o : List Nat) : Nat := (o.map fun s => 2 ^ (20 - lnA ls s)).sum
theorem xs_snoc (ls : List Int) (o : List Nat) (s : Nat) : xs ls (o ++ [s]) = xs ls o + 2 ^ (20 - lnA ls s) := by
  unfold xs
  rw [List.map_append, List.sum_append]
  simp
def wd (ls : List Int) (o : List Nat) (s : Nat) : List Int := bitsL (xs ls o / 2 ^ (20 - lnA ls s)) (lnA ls s)
def upTo (o : List Nat) (k : Nat) : List Nat := o.takeWhile fun x => decide (x ≠ k)
theorem upTo_app {o : List Nat} {k s : Nat} (h : k ∈ o) : upTo (o ++ [s]) k = upTo o k := by
  unfold upTo
  induction o with
  | nil => simp at h
  | cons x r ih =>
    by_cases e : x = k
    · subst e
      simp
    · have h' : k ∈ r := by
        rcases List.mem_cons.mp h with z | z
        · exact absurd z.symm e
        · exact z
      simp only [List.cons_append]
      rw [List.takeWhile_cons_of_pos (by simpa using e), List.takeWhile_cons_of_pos (by simpa using e), ih h']
theorem upTo_new {o : List Nat} {s : Nat} (h : s ∉ o) : upTo (o ++ [s]) s = o := by
  unfold upTo
  induction o with
  | nil => simp
  | cons x r ih =>
    have hx : x ≠ s := fun z => h (by rw [z]; exact List.mem_cons_self)
    simp only [List.cons_append]
    rw [List.takeWhile_cons_of_pos (by simpa using hx), ih fun z => h (List.mem_cons_of_mem _ z)]
def ent (ls : List Int) (o : List Nat) (k : Nat) : Option (List Int) := if k ∈ o then some (wd ls (upTo o k) k) else none
def tabOf (ls : List Int) (o : List Nat) : List (Option (List Int)) := (List.range ls.length).map (ent ls o)
theorem tab_len (ls : List Int) (o : List Nat) : (tabOf ls o).length = ls.length := by simp [tabOf]
theorem tab_at {ls : List Int} {o : List Nat} {k : Nat} (h : k < ls.length) : (tabOf ls o)[k]? = some (ent ls o k) := by
  unfold tabOf
  rw [List.getElem?_map, List.getElem?_range h]
  rfl
theorem tab_nil (ls : List Int) : tabOf ls [] = List.replicate ls.length none := by
  refine List.ext_getElem? fun k => ?_
  by_cases h : k < ls.length
  · rw [tab_at h, List.getElem?_replicate, if_pos h]
    rfl
  · rw [List.getElem?_eq_none (by rw [tab_len]; omega), List.getElem?_eq_none (by rw [List.length_replicate]; omega)]
theorem ent_add {ls : List Int} {o : List Nat} {s k : Nat} (hs : s ∉ o) : ent ls (o ++ [s]) k = if k = s then some (wd ls o s) else ent ls o k := by
  unfold ent
  by_cases e : k = s
  · subst e
    rw [if_pos (List.mem_append_right _ (List.mem_singleton.mpr rfl)), if_pos rfl, upTo_new hs]
  · rw [if_neg e]
    by_cases h : k ∈ o
    · rw [if_pos (List.mem_append_left _ h), if_pos h, upTo_app h]
    · rw [if_neg fun z => ?_, if_neg h]
      rcases List.mem_append.mp z with z | z
      · exact h z
      · exact e (List.mem_singleton.mp z)
/-! ### no word begins another one -/
theorem nodup_sum (f : Nat → Nat) : ∀ (l m : List Nat), l.Nodup → (∀ x ∈ l, x ∈ m) → (l.map f).sum ≤ (m.map f).sum
  | [], _, _, _ => Nat.zero_le _
  | x :: l, m, h, hs => by
    have h' := List.nodup_cons.mp h
    have hx := hs x List.mem_cons_self
    have h1 := nodup_sum f l (m.erase x) h'.2 fun y hy => (List.mem_erase_of_ne (fun e => h'.1 (by rw [← e]; exact hy))).mpr (hs y (List.mem_cons_of_mem _ hy))
    have h2 := ((List.perm_cons_erase hx).map f).sum_nat
    rw [h2]
    simp only [List.map_cons, List.sum_cons]
    omega
theorem IsOrd.nodup {ls : List Int} {o : List Nat} (h : IsOrd ls o) : o.Nodup := h.pw.imp fun {a b} h e => by subst e; exact h.irrefl
theorem kraft_sum : ∀ ls : List Int, (∀ x ∈ ls, 0 ≤ x) → (((List.range ls.length).map fun k => if lnA ls k = 0 then 0 else 2 ^ (20 - lnA ls k)).sum : Nat) = kraft ls
  | [], _ => rfl
  | x :: r, h => by
    have ih := kraft_sum r fun y hy => h y (List.mem_cons_of_mem _ hy)
    have hx := h x List.mem_cons_self
    rw [List.length_cons, List.range_succ_eq_map, List.map_cons, List.map_map, List.sum_cons]
    have e : (fun k => if lnA (x :: r) k = 0 then 0 else 2 ^ (20 - lnA (x :: r) k)) ∘ Nat.succ = fun k => if lnA r k = 0 then 0 else 2 ^ (20 - lnA r k) := by
      funext k
      rfl
    rw [e, Int.natCast_add, ih]
    show _ = share x + kraft r
    congr 1
    show (((if x.toNat = 0 then 0 else 2 ^ (20 - x.toNat)) : Nat) : Int) = share x
    unfold share
    by_cases z : x = 0
    · subst z; rfl
    · rw [if_neg (by omega), if_neg z]
      simp
theorem xs_le {ls : List Int} {o : List Nat} (hl : Lok ls) (h : IsOrd ls o) : (xs ls o : Int) ≤ kraft ls := by
  rw [← kraft_sum ls fun x hx => (hl x hx).1]
  have h1 := nodup_sum (fun k => if lnA ls k = 0 then 0 else 2 ^ (20 - lnA ls k)) o (List.range ls.length) h.nodup fun x hx => List.mem_range.mpr ((h.mem x).mp hx).1
  have h2 : (o.map fun k => if lnA ls k = 0 then 0 else 2 ^ (20 - lnA ls k)) = o.map fun s => 2 ^ (20 - lnA ls s) := by
    refine List.map_congr_left fun k hk => ?_
    have := ((h.mem k).mp hk).2
    rw [if_neg (by omega)]
  rw [h2] at h1
  unfold xs
  exact_mod_cast h1
theorem bits_mod (x y : Nat) : ∀ l, (∀ i, i < l → x / 2 ^ i % 2 = y / 2 ^ i % 2) → x % 2 ^ l = y % 2 ^ l
  | 0, _ => by rw [Nat.pow_zero, Nat.mod_one, Nat.mod_one]
  | l + 1, h => by
    rw [Nat.pow_succ, Nat.mod_mul, Nat.mod_mul, bits_mod x y l fun i hi => h i (by omega), h l (by omega)]
theorem bits_inj {x y l : Nat} (hx : x < 2 ^ l) (hy : y < 2 ^ l) (h : bitsL x l = bitsL y l) : x = y := by
  have h1 := bits_mod x y l fun i hi => by
    have h2 := congrArg (fun z => z[l - 1 - i]?) h
    have h3 : l - 1 - (l - 1 - i) = i := by omega
    simp only [bitsL, List.getElem?_map, List.getElem?_range (show l - 1 - i < l by omega), Option.map_some, h3, Option.some.injEq] at h2
    exact_mod_cast h2
  rwa [Nat.mod_eq_of_lt hx, Nat.mod_eq_of_lt hy] at h1
theorem bits_take {x l m : Nat} (h : m ≤ l) : (bitsL x l).take m = bitsL (x / 2 ^ (l - m)) m := by
  refine List.ext_getElem? fun j => ?_
  by_cases hj : j < m
  · rw [List.getElem?_take_of_lt hj]
    simp only [bitsL, List.getElem?_map, List.getElem?_range (show j < l by omega), List.getElem?_range hj, Option.map_some, Nat.div_div_eq_div_mul, ← Nat.pow_add]
    have : l - m + (m - 1 - j) = l - 1 - j := by omega
    rw [this]
  · rw [List.getElem?_eq_none (by rw [List.length_take, bits_len]; omega), List.getElem?_eq_none (by rw [bits_len]; omega)]
/-- where a symbol stands in the order -/
theorem split_at {o : List Nat} {k : Nat} (h : k ∈ o) : ∃ r, o = upTo o k ++ k :: r := by
  unfold upTo
  induction o with
  | nil => simp at h
  | cons x t ih =>
    by_cases e : x = k
    · subst e
      exact ⟨t, by simp⟩
    · have h' : k ∈ t := by
        rcases List.mem_cons.mp h with z | z
        · exact absurd z.symm e
        · exact z
      obtain ⟨r, hr⟩ := ih h'
      refine ⟨r, ?_⟩
      rw [List.takeWhile_cons_of_pos (by simpa using e), List.cons_append, ← hr]
theorem xs_app (ls : List Int) (a b : List Nat) : xs ls (a ++ b) = xs ls a + xs ls b := by
  unfold xs
  rw [List.map_append, List.sum_append]
theorem upTo_mem {o : List Nat} {k x : Nat} (h : x ∈ upTo o k) : x ∈ o := (List.takeWhile_sublist _).subset h
theorem pos_lt {ls : List Int} {o : List Nat} (hl : Lok ls) (h : IsOrd ls o) (hk : kraft ls ≤ 1048576) {k : Nat} (hm : k ∈ o) : xs ls (upTo o k) + 2 ^ (20 - lnA ls k) ≤ 2 ^ 20 := by
  obtain ⟨r, e⟩ := split_at hm
  have h1 := xs_le hl h
  have h2 : xs ls o = xs ls (upTo o k) + (2 ^ (20 - lnA ls k) + xs ls r) := by
    rw (occs := .pos [1]) [e]
    rw [xs_app]
    simp [xs]
  have h3 : ((xs ls o : Nat) : Int) ≤ 1048576 := by omega
  have h4 : xs ls o ≤ 1048576 := by omega
  have h5 : (2 : Nat) ^ 20 = 1048576 := by decide
  omega
theorem before {ls : List Int} {o : List Nat} (h : IsOrd ls o) {a b : Nat} (ha : a ∈ o) (hb : b ∈ o) (hab : Lx ls a b) : xs ls (upTo o a) + 2 ^ (20 - lnA ls a) ≤ xs ls (upTo o b) := by
  obtain ⟨r, e⟩ := split_at hb
  have ham : a ∈ upTo o b := by
    have h1 : a ∈ upTo o b ++ b :: r := by rw [← e]; exact ha
    rcases List.mem_append.mp h1 with z | z
    · exact z
    · exfalso
      rcases List.mem_cons.mp z with z | z
      · subst z; exact hab.irrefl
      · have h2 := h.pw
        rw [e] at h2
        have h3 := (List.pairwise_cons.mp (List.pairwise_append.mp h2).2.1).1 a z
        exact hab.asymm h3
  obtain ⟨r2, e2⟩ := split_at ham
  have h5 : upTo (upTo o b) a = upTo o a := by
    rw (occs := .pos [2]) [e]
    have : ∀ (t u : List Nat), a ∈ t → upTo (t ++ u) a = upTo t a := fun t u ht => by
      clear e2 ham e h ha hb hab
      unfold upTo
      induction t with
      | nil => simp at ht
      | cons x t ih =>
        by_cases q : x = a
        · subst q; simp
        · have h' : a ∈ t := by
            rcases List.mem_cons.mp ht with z | z
            · exact absurd z.symm q
            · exact z
          simp only [List.cons_append]
          rw [List.takeWhile_cons_of_pos (by simpa using q), List.takeWhile_cons_of_pos (by simpa using q), ih h']
    exact (this _ _ ham).symm
  rw [e2, h5, xs_app]
  have : xs ls (a :: r2) = 2 ^ (20 - lnA ls a) + xs ls r2 := by simp [xs]
  omega
theorem Lx.total {ls : List Int} {k j : Nat} (h : k ≠ j) : Lx ls k j ∨ Lx ls j k := by
  unfold Lx; omega
theorem clash {ls : List Int} {o : List Nat} (hl : Lok ls) (h : IsOrd ls o) (hk : kraft ls ≤ 1048576) {a b : Nat} (ha : a ∈ o) (hb : b ∈ o) (hab : Lx ls a b) (hle : lnA ls a ≤ lnA ls b) : (wd ls (upTo o b) b).take (lnA ls a) ≠ wd ls (upTo o a) a := by
  intro e
  have l1 := ln_le hl a
  have l2 := ln_le hl b
  unfold wd at e
  rw [bits_take hle, Nat.div_div_eq_div_mul, ← Nat.pow_add] at e
  have e1 : 20 - lnA ls b + (lnA ls b - lnA ls a) = 20 - lnA ls a := by omega
  rw [e1] at e
  have p1 := pos_lt hl h hk ha
  have p2 := pos_lt hl h hk hb
  have b1 := before h ha hb hab
  have hp : 0 < 2 ^ (20 - lnA ls a) := Nat.pow_pos (by decide)
  have hp2 : 0 < 2 ^ (20 - lnA ls b) := Nat.pow_pos (by decide)
  have hm : (2 : Nat) ^ 20 = 2 ^ lnA ls a * 2 ^ (20 - lnA ls a) := by rw [← Nat.pow_add]; congr 1; omega
  have q1 : xs ls (upTo o b) / 2 ^ (20 - lnA ls a) < 2 ^ lnA ls a := (Nat.div_lt_iff_lt_mul hp).mpr (by omega)
  have q2 : xs ls (upTo o a) / 2 ^ (20 - lnA ls a) < 2 ^ lnA ls a := (Nat.div_lt_iff_lt_mul hp).mpr (by omega)
  have e2 := bits_inj q1 q2 e
  have q3 : (xs ls (upTo o a) + 2 ^ (20 - lnA ls a)) / 2 ^ (20 - lnA ls a) ≤ xs ls (upTo o b) / 2 ^ (20 - lnA ls a) := Nat.div_le_div_right b1
  rw [Nat.add_div_right _ hp] at q3
  omega
/-- no word is the beginning of another one -/
theorem free {ls : List Int} {o : List Nat} (hl : Lok ls) (h : IsOrd ls o) (hk : kraft ls ≤ 1048576) {a b : Nat} (ha : a ∈ o) (hb : b ∈ o) (hab : a ≠ b) : (wd ls (upTo o b) b).take (lnA ls a) ≠ wd ls (upTo o a) a := by
  rcases Lx.total (ls := ls) hab with z | z
  · exact clash hl h hk ha hb z (by unfold Lx at z; omega)
  · intro e
    have hle : lnA ls b ≤ lnA ls a := by unfold Lx at z; omega
    have h1 : (wd ls (upTo o b) b).length = lnA ls b := bits_len _ _
    have h2 : (wd ls (upTo o a) a).length = lnA ls a := bits_len _ _
    have h3 := congrArg List.length e
    rw [List.length_take, h1, h2] at h3
    have h4 : lnA ls a = lnA ls b := by omega
    have h5 := clash hl h hk hb ha z hle
    apply h5
    rw [← h4, List.take_of_length_le (by rw [h2]; exact Nat.le_refl _), ← e, h4, List.take_of_length_le (by rw [h1]; exact Nat.le_refl _)]
end M01
set_option Elab.async false
set_option linter.all false
set_option maxRecDepth 100000
set_option maxHeartbeats 2000000
/-! the least tree over a row of weights -/
namespace M07
def minL : List Int → Int
  | [] => 0
  | [x] => x
  | x :: y :: r => if minL (y :: r) < x then minL (y :: r) else x
theorem minL_mem : ∀ {l : List Int}, l ≠ [] → minL l ∈ l
  | [], h => absurd rfl h
  | [x], _ => List.mem_cons_self
  | x :: y :: r, _ => by
    unfold minL
    split
    · exact List.mem_cons_of_mem _ (minL_mem (by simp))
    · exact List.mem_cons_self
theorem minL_le : ∀ {l : List Int} {y : Int}, y ∈ l → minL l ≤ y
  | [], _, h => by cases h
  | [x], y, h => by rw [List.mem_singleton.mp h]; exact Int.le_refl _
  | x :: z :: r, y, h => by
    unfold minL
    rcases List.mem_cons.mp h with e | e
    · subst e
      split <;> omega
    · have := minL_le e
      split <;> omega
def sm (ws : List Int) (s e : Nat) : Int := (ws.take e).sum - (ws.take s).sum
def vf (ws : List Int) : Nat → Nat → Nat → Int
  | 0, _, _ => 0
  | f + 1, s, e => if e ≤ s + 1 then 0 else sm ws s e + minL ((List.range (e - s - 1)).map fun j => vf ws f s (s + 1 + j) + vf ws f (s + 1 + j) e)
theorem vf_succ (ws : List Int) (f s e : Nat) : vf ws (f + 1) s e = if e ≤ s + 1 then 0 else sm ws s e + minL ((List.range (e - s - 1)).map fun j => vf ws f s (s + 1 + j) + vf ws f (s + 1 + j) e) := rfl
theorem vf_fuel (ws : List Int) : ∀ (f g s e : Nat), e - s ≤ f → e - s ≤ g → vf ws f s e = vf ws g s e
  | 0, 0, _, _, _, _ => rfl
  | 0, g + 1, s, e, h, _ => by
    rw [vf_succ, if_pos (by omega)]
    rfl
  | f + 1, 0, s, e, _, h => by
    rw [vf_succ, if_pos (by omega)]
    rfl
  | f + 1, g + 1, s, e, h1, h2 => by
    rw [vf_succ, vf_succ]
    by_cases z : e ≤ s + 1
    · rw [if_pos z, if_pos z]
    · rw [if_neg z, if_neg z]
      congr 2
      refine List.map_congr_left fun j hj => ?_
      have hj2 := List.mem_range.mp hj
      rw [vf_fuel ws f g s (s + 1 + j) (by omega) (by omega), vf_fuel ws f g (s + 1 + j) e (by omega) (by omega)]
def val (ws : List Int) (s e : Nat) : Int := vf ws (e - s) s e
/-- what the cuts of a range come to -/
def parts (ws : List Int) (s e : Nat) : List Int := (List.range (e - s - 1)).map fun j => val ws s (s + 1 + j) + val ws (s + 1 + j) e
theorem parts_len (ws : List Int) (s e : Nat) : (parts ws s e).length = e - s - 1 := by simp [parts]
theorem val_one {ws : List Int} {s e : Nat} (h : e ≤ s + 1) : val ws s e = 0 := by
  unfold val
  cases hf : e - s with
  | zero => rfl
  | succ f =>
    rw [vf_succ, if_pos h]
theorem val_up {ws : List Int} {s e : Nat} (h : s + 1 < e) : val ws s e = sm ws s e + minL (parts ws s e) := by
  unfold val
  obtain ⟨f, hf⟩ : ∃ f, e - s = f + 1 := ⟨e - s - 1, by omega⟩
  rw [hf, vf_succ, if_neg (by omega)]
  congr 2
  unfold parts val
  refine List.map_congr_left fun j hj => ?_
  have hj2 := List.mem_range.mp hj
  rw [vf_fuel ws f (s + 1 + j - s) s (s + 1 + j) (by omega) (by omega), vf_fuel ws f (e - (s + 1 + j)) (s + 1 + j) e (by omega) (by omega)]
/-- the place of the least item, the first of them -/
def ix (l : List Int) : Nat := l.findIdx fun y => decide (y = minL l)
theorem ix_lt {l : List Int} (h : l ≠ []) : ix l < l.length := by
  unfold ix
  rw [List.findIdx_lt_length]
  exact ⟨_, minL_mem h, by simp⟩
theorem ix_at {l : List Int} (h : l ≠ []) : l.getD (ix l) 0 = minL l := by
  have hlt := ix_lt h
  have := List.findIdx_getElem (xs := l) (p := fun y => decide (y = minL l)) (w := hlt)
  rw [List.getD_eq_getElem?_getD, List.getElem?_eq_getElem hlt]
  exact of_decide_eq_true this
theorem ix_before {l : List Int} {j : Nat} (h : j < ix l) : l.getD j 0 ≠ minL l := by
  intro e
  have hj : j < l.length := Nat.lt_of_lt_of_le h (List.findIdx_le_length)
  have := List.not_of_lt_findIdx (xs := l) (p := fun y => decide (y = minL l)) h
  rw [List.getD_eq_getElem?_getD, List.getElem?_eq_getElem hj] at e
  simp at this
  exact this (by simpa using e)
def cut (ws : List Int) (s e : Nat) : Nat := s + 1 + ix (parts ws s e)
theorem parts_ne {ws : List Int} {s e : Nat} (h : s + 1 < e) : parts ws s e ≠ [] := fun z => by
  have := parts_len ws s e
  rw [z, List.length_nil] at this
  omega
theorem cut_in {ws : List Int} {s e : Nat} (h : s + 1 < e) : s < cut ws s e ∧ cut ws s e < e := by
  have := ix_lt (parts_ne (ws := ws) h)
  rw [parts_len] at this
  unfold cut
  omega
theorem parts_get {ws : List Int} {s e j : Nat} (h : j < e - s - 1) : (parts ws s e).getD j 0 = val ws s (s + 1 + j) + val ws (s + 1 + j) e := by
  unfold parts
  rw [List.getD_eq_getElem?_getD, List.getElem?_map, List.getElem?_range h]
  rfl
theorem val_cut {ws : List Int} {s e : Nat} (h : s + 1 < e) : val ws s e = sm ws s e + (val ws s (cut ws s e) + val ws (cut ws s e) e) := by
  rw [val_up h, ← ix_at (parts_ne h), parts_get]
  · rfl
  · have := ix_lt (parts_ne (ws := ws) h)
    rwa [parts_len] at this
theorem val_le {ws : List Int} {s e k : Nat} (h1 : s < k) (h2 : k < e) : val ws s e ≤ sm ws s e + (val ws s k + val ws k e) := by
  rw [val_up (by omega)]
  have hj : k - s - 1 < e - s - 1 := by omega
  have hg := parts_get (ws := ws) hj
  have e1 : s + 1 + (k - s - 1) = k := by omega
  rw [e1] at hg
  have hm : (parts ws s e).getD (k - s - 1) 0 ∈ parts ws s e := by
    rw [List.getD_eq_getElem?_getD, List.getElem?_eq_getElem (by rw [parts_len]; exact hj)]
    exact List.getElem_mem _
  have := minL_le hm
  omega
/-- the way to a leaf -/
def pf (ws : List Int) : Nat → Nat → Nat → Nat → List Int
  | 0, _, _, _ => []
  | f + 1, s, e, k => if e ≤ s + 1 then [] else if k < cut ws s e then 0 :: pf ws f s (cut ws s e) k else 1 :: pf ws f (cut ws s e) e k
theorem pf_succ (ws : List Int) (f s e k : Nat) : pf ws (f + 1) s e k = if e ≤ s + 1 then [] else if k < cut ws s e then 0 :: pf ws f s (cut ws s e) k else 1 :: pf ws f (cut ws s e) e k := rfl
theorem pf_fuel (ws : List Int) : ∀ (f g s e k : Nat), e - s ≤ f → e - s ≤ g → pf ws f s e k = pf ws g s e k
  | 0, 0, _, _, _, _, _ => rfl
  | 0, g + 1, s, e, k, h, _ => by
    rw [pf_succ, if_pos (by omega)]
    rfl
  | f + 1, 0, s, e, k, _, h => by
    rw [pf_succ, if_pos (by omega)]
    rfl
  | f + 1, g + 1, s, e, k, h1, h2 => by
    rw [pf_succ, pf_succ]
    by_cases z : e ≤ s + 1
    · rw [if_pos z, if_pos z]
    · rw [if_neg z, if_neg z]
      have hc := cut_in (ws := ws) (show s + 1 < e by omega)
      rw [pf_fuel ws f g s (cut ws s e) k (by omega) (by omega), pf_fuel ws f g (cut ws s e) e k (by omega) (by omega)]
def path (ws : List Int) (s e k : Nat) : List Int := pf ws (e - s) s e k
theorem path_one {ws : List Int} {s e k : Nat} (h : e ≤ s + 1) : path ws s e k = [] := by
  unfold path
  cases hf : e - s with
  | zero => rfl
  | succ f => rw [pf_succ, if_pos h]
theorem path_up {ws : List Int} {s e k : Nat} (h : s + 1 < e) : path ws s e k = if k < cut ws s e then 0 :: path ws s (cut ws s e) k else 1 :: path ws (cut ws s e) e k := by
  unfold path
  obtain ⟨f, hf⟩ : ∃ f, e - s = f + 1 := ⟨e - s - 1, by omega⟩
  have hc := cut_in (ws := ws) h
  rw [hf, pf_succ, if_neg (by omega), pf_fuel ws f (cut ws s e - s) s (cut ws s e) k (by omega) (by omega), pf_fuel ws f (e - cut ws s e) (cut ws s e) e k (by omega) (by omega)]
/-- the words of a range, from the left -/
def wordsR (ws : List Int) (s e : Nat) (w : List Int) : List (List Int) := (List.range (e - s)).map fun j => w ++ path ws s e (s + j)
theorem words_one {ws : List Int} {s : Nat} {w : List Int} : wordsR ws s (s + 1) w = [w] := by
  unfold wordsR
  rw [Nat.add_sub_cancel_left]
  simp [path_one]
theorem words_up {ws : List Int} {s e : Nat} {w : List Int} (h : s + 1 < e) : wordsR ws s e w = wordsR ws s (cut ws s e) (w ++ [0]) ++ wordsR ws (cut ws s e) e (w ++ [1]) := by
  have hc := cut_in (ws := ws) h
  unfold wordsR
  have hs : e - s = (cut ws s e - s) + (e - cut ws s e) := by omega
  rw [hs, List.range_add, List.map_append, List.map_map]
  congr 1
  · refine List.map_congr_left fun j hj => ?_
    have := List.mem_range.mp hj
    rw [path_up h, if_pos (by omega)]
    simp
  · refine List.map_congr_left fun j hj => ?_
    have := List.mem_range.mp hj
    show w ++ path ws s e (s + (cut ws s e - s + j)) = _
    have e1 : s + (cut ws s e - s + j) = cut ws s e + j := by omega
    rw [e1, path_up h, if_neg (by omega)]
    simp
/-- what the words of a range cost -/
def pr (ws : List Int) (s e : Nat) : Int := ((List.range (e - s)).map fun j => ws.getD (s + j) 0 * ((path ws s e (s + j)).length : Int)).sum
theorem sm_add (ws : List Int) (s k e : Nat) : sm ws s e = sm ws s k + sm ws k e := by unfold sm; omega
theorem sum_add_map (l : List Nat) (f g : Nat → Int) : (l.map fun j => f j + g j).sum = (l.map f).sum + (l.map g).sum := by
  induction l with
  | nil => rfl
  | cons x r ih =>
    simp only [List.map_cons, List.sum_cons, ih]
    omega
theorem take_get (ws : List Int) {i : Nat} (h : i < ws.length) : (ws.take (i + 1)).sum = (ws.take i).sum + ws.getD i 0 := by
  rw [← List.take_append_getElem h, List.sum_append, List.getD_eq_getElem?_getD, List.getElem?_eq_getElem h]
  simp
theorem sm_sum (ws : List Int) : ∀ (d s : Nat), s + d ≤ ws.length → ((List.range d).map fun j => ws.getD (s + j) 0).sum = sm ws s (s + d)
  | 0, s, _ => by simp [sm]
  | d + 1, s, h => by
    rw [List.range_succ, List.map_append, List.sum_append, sm_sum ws d s (by omega)]
    unfold sm
    have := take_get ws (i := s + d) (by omega)
    rw [← Nat.add_assoc, this]
    simp
    omega
theorem pr_val {ws : List Int} : ∀ (d s e : Nat), e - s ≤ d → s < e → e ≤ ws.length → pr ws s e = val ws s e
  | 0, s, e, h, h2, _ => by omega
  | d + 1, s, e, h, h2, h3 => by
    by_cases z : e ≤ s + 1
    · rw [val_one z]
      unfold pr
      have e1 : e - s = 1 := by omega
      rw [e1]
      simp [path_one z]
    · have hup : s + 1 < e := by omega
      have hc := cut_in (ws := ws) hup
      have i1 := pr_val (ws := ws) d s (cut ws s e) (by omega) (by omega) (by omega)
      have i2 := pr_val (ws := ws) d (cut ws s e) e (by omega) (by omega) (by omega)
      rw [val_cut hup, ← i1, ← i2, sm_add ws s (cut ws s e) e]
      have s1 := sm_sum ws (cut ws s e - s) s (by omega)
      have s2 := sm_sum ws (e - cut ws s e) (cut ws s e) (by omega)
      rw [show s + (cut ws s e - s) = cut ws s e by omega] at s1
      rw [show cut ws s e + (e - cut ws s e) = e by omega] at s2
      rw [← s1, ← s2]
      unfold pr
      have hs : e - s = (cut ws s e - s) + (e - cut ws s e) := by omega
      have hl : ((List.range (e - s)).map fun j => ws.getD (s + j) 0 * ((path ws s e (s + j)).length : Int)).sum = ((List.range (cut ws s e - s)).map fun j => ws.getD (s + j) 0 + ws.getD (s + j) 0 * ((path ws s (cut ws s e) (s + j)).length : Int)).sum + ((List.range (e - cut ws s e)).map fun j => ws.getD (cut ws s e + j) 0 + ws.getD (cut ws s e + j) 0 * ((path ws (cut ws s e) e (cut ws s e + j)).length : Int)).sum := by
        rw [hs, List.range_add, List.map_append, List.sum_append, List.map_map]
        congr 2
        · refine List.map_congr_left fun j hj => ?_
          have := List.mem_range.mp hj
          rw [path_up hup, if_pos (by omega), List.length_cons]
          push_cast
          rw [Int.mul_add, Int.mul_one, Int.add_comm]
        · refine List.map_congr_left fun j hj => ?_
          have := List.mem_range.mp hj
          show ws.getD (s + (cut ws s e - s + j)) 0 * _ = _
          have e1 : s + (cut ws s e - s + j) = cut ws s e + j := by omega
          show ws.getD (s + (cut ws s e - s + j)) 0 * ((path ws s e (s + (cut ws s e - s + j))).length : Int) = _
          rw [e1, path_up hup, if_neg (by omega), List.length_cons]
          push_cast
          rw [Int.mul_add, Int.mul_one, Int.add_comm]
      rw [hl, sum_add_map, sum_add_map]
      omega
/-- neighbours -/
theorem path_next {ws : List Int} : ∀ (d s e k : Nat), e - s ≤ d → s ≤ k → k + 1 < e → ∃ (u p q : List Int), path ws s e k = u ++ 0 :: p ∧ path ws s e (k + 1) = u ++ 1 :: q
  | 0, s, e, k, h, h2, h3 => by omega
  | d + 1, s, e, k, h, h2, h3 => by
    have hup : s + 1 < e := by omega
    have hc := cut_in (ws := ws) hup
    rw [path_up hup, path_up hup]
    by_cases z1 : k + 1 < cut ws s e
    · rw [if_pos (by omega), if_pos z1]
      obtain ⟨u, p, q, h4, h5⟩ := path_next d s (cut ws s e) k (by omega) h2 z1
      exact ⟨0 :: u, p, q, by rw [h4]; rfl, by rw [h5]; rfl⟩
    · by_cases z2 : k < cut ws s e
      · rw [if_pos z2, if_neg z1]
        exact ⟨[], _, _, rfl, rfl⟩
      · rw [if_neg z2, if_neg z1]
        obtain ⟨u, p, q, h4, h5⟩ := path_next d (cut ws s e) e k (by omega) (by omega) h3
        exact ⟨1 :: u, p, q, by rw [h4]; rfl, by rw [h5]; rfl⟩
/-- a table that keeps the rules is nowhere above the least -/
theorem tab_le {ws : List Int} {t : Nat → Nat → Int} (n : Nat) (h1 : ∀ s, s < n → t s (s + 1) ≤ 0) (h2 : ∀ s e k, s < k → k < e → e ≤ n → t s e ≤ sm ws s e + (t s k + t k e)) : ∀ (d s e : Nat), e - s ≤ d → s < e → e ≤ n → t s e ≤ val ws s e
  | 0, s, e, h, h3, _ => by omega
  | d + 1, s, e, h, h3, h4 => by
    by_cases z : e ≤ s + 1
    · have e1 : e = s + 1 := by omega
      subst e1
      rw [val_one (Nat.le_refl _)]
      exact h1 s (by omega)
    · have hup : s + 1 < e := by omega
      have hc := cut_in (ws := ws) hup
      have i1 := tab_le n h1 h2 d s (cut ws s e) (by omega) (by omega) (by omega)
      have i2 := tab_le n h1 h2 d (cut ws s e) e (by omega) (by omega) (by omega)
      have := h2 s e (cut ws s e) hc.1 hc.2 h4
      rw [val_cut hup]
      omega
end M07
set_option Elab.async false
set_option linter.all false
set_option maxRecDepth 100000
set_option maxHeartbeats 4000000
/-! A walk over the keys of a dict with tuple keys. -/
namespace KC
open PySem PySem.Spec PyProof.Rows L2 GX Evl
/-- the key tuples of the dict at d, as long as it stands there as it was -/
def Itx (d : Addr) (ho : HO) (bs : List Addr) : It :=
  ⟨fun i H => H d = some ho ∧ i < bs.length, fun i H x H' => H' = H ∧ ∃ q, bs[i]? = some q ∧ x = .ref q, fun i H => H d = some ho ∧ bs.length ≤ i⟩
section
variable {P : Program} {w : World} {K : PySem.W.Frag} {tg : Expr} {d : Addr} {o : Obj} {es : Array DictEntry} {ep : Nat}
theorem turn_dX {xs : List (List Key × Addr × Value)} (it : Addr) (hod : o.data = .dict es ep) (hen : es.toList = xs.map (entryOfKey (tupleKind (mixKind P w)))) : Turn P w K tg (Itx d (DX P w d xs o) (xs.map fun x => x.2.1)) [it] it (fun i h => h.IsKeyIter it d i xs.length ep) where
  mem := by simp
  obj := fun i h st b hb => by
    have e : b = it := by simpa using hb
    subst e
    obtain ⟨oi, e, c, dd⟩ := st
    exact ⟨oi, e, fun v z => by rw [dd] at z; cases z⟩
  keep := fun i h h' st k => st.at fun oi e => k it (by simp) oi e
  item := by
    intro X hP hw hK hc i pins s σ H E I hf st hg
    subst hP hw hK
    obtain ⟨hd, hi⟩ := hg
    obtain ⟨f0, f1, f2, f3, f4, f5⟩ := hf it (by simp)
    obtain ⟨z, y, es', ep', hgd, hx, hdt, he, hn⟩ := (show DXp X.prog X.w d xs o s.heap from (show ObjOk X.prog X.w H s.heap d (DX X.prog X.w d xs o) from I.hok d _ hd).1)
    obtain ⟨rfl, rfl⟩ := dict_ep hod hdt
    have hsz : es'.size = xs.length := size_of_entries he
    rw [List.length_map] at hi
    have hxi : xs[i]? = some xs[i] := List.getElem?_eq_getElem hi
    generalize xs[i] = x at hxi
    have hei : es'[i]? = some (entryOfKey (tupleKind (mixKind X.prog X.w)) x) := by rw [entry_at he i, hxi]; rfl
    refine next_key_item st hgd hdt hsz hei fun h' st' sb => ?_
    have I1 : Inv X pins σ H { s with heap := h' } := I.turned (t' := s.toks) (fun b ob hb e => (sb.2 b hb).trans e) f0 f1 f3 f4 f5
    obtain ⟨oi, e, c, dd⟩ := id st'
    exact ⟨.ref x.2.1, rfl, go_of (s := { s with heap := h' }) e c dd (by decide) ⟨.ref x.2.1, H, I1, rfl, ⟨rfl, x.2.1, by rw [List.getElem?_map, hxi]; rfl, rfl⟩, st', fun b hb => (hf b hb).1⟩⟩
  done := by
    intro X hP hw hK hc i pins s σ H E I hf st hg
    subst hP hw hK
    obtain ⟨hd, hi⟩ := hg
    obtain ⟨f0, f1, f2, f3, f4, f5⟩ := hf it (by simp)
    obtain ⟨z, y, es', ep', hgd, hx, hdt, he, hn⟩ := (show DXp X.prog X.w d xs o s.heap from (show ObjOk X.prog X.w H s.heap d (DX X.prog X.w d xs o) from I.hok d _ hd).1)
    obtain ⟨rfl, rfl⟩ := dict_ep hod hdt
    have hsz : es'.size = xs.length := size_of_entries he
    rw [List.length_map] at hi
    exact next_key_end (I.ok.hd hc) st hgd hdt hsz hi fun h' eb => ⟨rfl, I.turned (t' := s.toks) (fun b ob hb e => eb b ob hb e) f0 f1 f3 f4 f5⟩
  self := fun A i s Q E st h => by
    refine wpAny_pyIter_slot st.typeIs PySem.F.slot_dict_keyiterator_iter (wpAny_call_entry PySem.F.slot_dict_keyiterator_iter st.typeIs PySem.F.entry_dict_keyiterator_iter ?_ (PySem.F.args_dict_keyiterator_iter_1 _))
    show wpAny _ _ (ret (.ref it)) _ _ s
    exact wpAny_pure ⟨_, rfl, "dict_keyiterator", _, st.typeIs, PySem.F.slot_dict_keyiterator_next.lookup, h⟩
end
def iDX (P : Program) (w : World) (td : TE) : TI := fun σ H R => td σ H fun x H1 => ∃ d xs o, x = .ref d ∧ H1 d = some (DX P w d xs o) ∧ R (Itx d (DX P w d xs o) (xs.map fun x => x.2.1)) H1
section
variable {X : Cx} {P : Program} {w : World} {K : PySem.W.Frag} {tg e : Expr} {td : TE}
theorem pi_dX (hX : X.prog = P ∧ X.w = w ∧ X.K = K) (he : PE X e td) : PI X tg e (iDX P w td) := by
  obtain ⟨rfl, rfl, rfl⟩ := hX
  refine ⟨fun pins s σ H R I h => ?_⟩
  refine thn (he.run pins s σ H _ I h) fun u s1 ⟨x, H1, I1, rx, d, xs, o, ex, hd, q⟩ => ?_
  subst ex
  obtain rfl : u = Value.ref d := rx
  obtain ⟨z, hs, es, ep, hgd, hx, hdt, hent, hn⟩ := (show DXp X.prog X.w d xs o s1.heap from (show ObjOk X.prog X.w H1 s1.heap d (DX X.prog X.w d xs o) from I1.hok d _ hd).1)
  have hsz : es.size = xs.length := size_of_entries hent
  refine iter_keys hs hgd hx hdt (pi_one (tk := s1.toks) I1 _ (turn_dX _ hdt hent) ⟨_, Heap.get?_push_size _ rfl, rfl, ?_⟩ q)
  rw [hsz] <;> rfl
end
end KC
set_option Elab.async false
set_option linter.all false
set_option maxRecDepth 100000
set_option maxHeartbeats 4000000
/-! A dict comprehension whose keys are tuples: it makes a dict of Kt's kind. (The walk through the block follows the order of the kit's rule for flat keys, which can't say what stands at the dict here.) -/
namespace KC
open PySem PySem.Spec PyProof.Rows L2 GX Evl
section
variable {X : Cx} {pins : List (Addr × Obj)} {σ : L2.St} {H : Hp} {s : Shared} {a b : Addr} {kvs : List (List Key × L2.V)} {k : List Key} {v : L2.V} {r : Value} {E : Value → Shared → Prop}
theorem dx_dictSet {Q : Unit → Shared → Prop} (hu : X.A.units < cLine) (I : Inv X pins σ H s) (g : DAt X.prog X.w X.K H a kvs) (hb : SqT X.K H b (k.map kV)) (hl : kvs.length < sizeLine) (rv : RelV v r)
    (h : ∀ H' s', DAt X.prog X.w X.K H' a (putK kvs k v) → (∀ c, c ≠ a → H' c = H c) → Inv X pins σ H' s' → Q () s') : wpAny (model X.prog X.w) X.A (dictSet a (.ref b) r) Q E s := by
  obtain ⟨xs, o, e, rel⟩ := g
  obtain ⟨z, hd, dd⟩ := dx_heap I e rel
  have hl2 := Paired.length rel
  refine wpAny_dictSet_heap (hsz := z) (show (tupleKind (mixKind X.prog X.w)).room X.A from hu) (key_ofX I hb) dd fun h' dd' hs => ?_
  obtain ⟨q, es, ep, hq, h2, h3, h4, _, h5⟩ := dd'
  have rel2 := rel.put k hb rv
  have hl3 : (storedH xs k b r).length ≤ sizeLine := by
    have := Paired.length rel2
    have := length_putK kvs k v
    omega
  refine h (upd H a (DX X.prog X.w a (storedH xs k b r) q)) _ ⟨_, _, upd_same, rel2.keeps fun c ys ec => sqt_ext ec e⟩ (fun c hc => upd_ne hc) ?_
  exact d_write I (by rw [e]; exact True.intro) hs ⟨q, hq⟩ (dx_ok ⟨hl3, hd, es, ep, hq, h2, h3, h4, h5⟩)
end
/-- {key: value for .. in .. if ..} -/
def tDcX (P : Program) (w : World) (K : PySem.W.Frag) (wi : TI) (g : TG) (tt : TT) (tk tv : TE) (vs : List Nat) : TE := fun σ H Q => wi σ H fun J H1 => ∀ D, H1 D = none → ∃ W : Nat → Nat → Hp → Prop, (∃ m, W 0 m (upd H1 D (DX P w D [] newD))) ∧ ∀ i m H, W i m H →
  (J.stop i H ∧ Q (.ref D) H) ∨ (J.go i H ∧ ∃ Nx : Hp → Prop, (∀ H', Nx H' → ∃ m', m' < m ∧ W (i + 1) m' H') ∧ ∀ x H', J.yld i H x H' → g x (wipe σ vs) H' fun σ2 H2 => wipe σ2 vs = wipe σ vs ∧ tt σ2 H2 fun b H3 =>
    if b = true then tk σ2 H3 fun y H4 => tv σ2 H4 fun z H5 => ∃ kvs c k, y = .ref c ∧ DAt P w K H5 D kvs ∧ SqT K H5 c (k.map kV) ∧ kvs.length < sizeLine ∧ ∀ H6, DAt P w K H6 D (putK kvs k z) → (∀ c, c ≠ D → H6 c = H5 c) → Nx H6 else Nx H3)
section
variable {X : Cx}
theorem dcx_core {pins : List (Addr × Obj)} {s : Shared} {σ : L2.St} {H : Hp} {Q : VK} {kx vx tg iter : Expr} {ifs : List Expr} {scope : Scope} {own : List (Str × Nat)} {pos pos' : Pos} {wi : TI} {g : TG} {tt : TT} {tk tv : TE} {use : Option (Value → Sem Unit)} {Qf : Value → Shared → Prop}
    (hu : X.A.units < cLine) (hc : X.calm = true) (hN : X.N.Nodup) (I : Inv X pins σ H s) (hi : PI X tg iter wi) (ok : BlkOk X.N X.env.scope scope own)
    (hg : ∀ (s : Shared) (H : Hp) (C : Addr) (cl : List (Str × Addr)) (fp : List Addr), PG (X.blk s H scope (compEnvC scope cl C X.env) fp) tg g) (ht : ∀ (s : Shared) (H : Hp) (C : Addr) (cl : List (Str × Addr)) (fp : List Addr), PTs (X.blk s H scope (compEnvC scope cl C X.env) fp) ifs tt)
    (hk : ∀ (s : Shared) (H : Hp) (C : Addr) (cl : List (Str × Addr)) (fp : List Addr), PE (X.blk s H scope (compEnvC scope cl C X.env) fp) kx tk)
    (he : ∀ (s : Shared) (H : Hp) (C : Addr) (cl : List (Str × Addr)) (fp : List Addr), PE (X.blk s H scope (compEnvC scope cl C X.env) fp) vx tv) (hs : ∀ x, foldedSetIterable iter X.env x = pure x)
    (h : tDcX X.prog X.w X.K wi g tt tk tv (own.map (·.2)) σ H Q)
    (hRR : ∀ D C s' m H', Inv X pins σ H' s' → Q (.ref D) H' → s'.heap.Ns C m → FpOk X pins H' C → compPost (model X.prog X.w) X.A X.xe use Qf (.ref D) C (.ok .next) s') :
    wpAny (model X.prog X.w) X.A (comprehension (.DictComp kx vx [⟨tg, iter, ifs, 0⟩] scope pos) scope X.env pos' newDict false (eval iter X.env) use) Qf X.xe s := by
  have free : ∀ y ∈ scope.names, y.2 = .free → ∃ c, X.env.cells.lookup y.1 = some c := fun y hy e => (ok.free y hy e).elim (fun k => I.ok.has _ (.inl k)) fun k => I.ok.has _ (.inr k)
  refine wpAny_comprehension_free (use := use) rfl hs (closure_ok free) ok.kind (fun y hy e => by rw [ok.uniq y hy, e]) (thn (hi.run pins s σ H _ I h) fun xv s1 hx => thn hx fun itv s2 h2 => ?_)
  obtain ⟨it, fp, tn, J, H2, rfl, I2, T, st2, f2, q⟩ := h2
  refine wpAny_newObj_type (newEnv_comp ?_)
  generalize hD : s2.heap.objs.size = D
  obtain ⟨W, ⟨m0, w0⟩, turn⟩ := q D (I2.hok.fresh (Nat.le_of_eq hD))
  -- the dict is there
  generalize hs3 : ({ s2 with heap := s2.heap.push { cls := .type "dict", data := .dict #[] } } : Shared) = s3
  have h3 : s3.heap = s2.heap.push { cls := .type "dict", data := .dict #[] } := by rw [← hs3]
  have I3 : Inv X pins σ (upd H2 D (DX X.prog X.w D [] newD)) s3 := by
    subst hs3 hD
    refine I2.laid (t' := s2.toks) (fun b o e => Heap.get?_push_of_some _ e) (Nat.le_refl _) (dx_ok ?_)
    exact ⟨Nat.zero_le _, beq_eq_false_iff_ne.mpr (Ne.symm (Nat.ne_of_lt I2.big)), #[], 0, Heap.get?_push_size _ rfl, ⟨rfl, rfl, rfl⟩, rfl, rfl, List.nodup_nil⟩
  have lt : ∀ b ∈ fp, b < s2.heap.objs.size := fun b hb => let ⟨_, e, _⟩ := T.obj _ _ st2 b hb; Heap.lt_size e
  have f3 : ∀ b ∈ fp, FpOk X pins (upd H2 D (DX X.prog X.w D [] newD)) b ∧ b < s3.heap.objs.size := fun b hb =>
    ⟨⟨by rw [upd_ne (by rw [← hD]; exact Nat.ne_of_lt (lt b hb))]; exact (f2 b hb).1, (f2 b hb).2⟩, by rw [h3, Heap.size_push]; exact Nat.lt_succ_of_lt (lt b hb)⟩
  have I4 := block_start I3 ok hN f3
  generalize hC : s3.heap.objs.size = C at I4 f3
  generalize hcl : cellsFrom (C + 1) scope.names (cloFrom X.env.cells scope.names []) = cl at I4
  show codeAny _ _ (.compStart (.DictComp kx vx [⟨tg, iter, ifs, 0⟩] scope pos) 0 (.ref it) (.ref D) (compEnvC scope cl C X.env)) (compPost (model X.prog X.w) X.A X.xe use Qf (.ref D) C) { s3 with heap := pushCells (s3.heap.push { cls := .type "dict", data := .dict #[] }) scope.names }
  have pg := hg s3 (upd H2 D (DX X.prog X.w D [] newD)) C cl fp
  have pt := ht s3 (upd H2 D (DX X.prog X.w D [] newD)) C cl fp
  have pk := hk s3 (upd H2 D (DX X.prog X.w D [] newD)) C cl fp
  have pe := he s3 (upd H2 D (DX X.prog X.w D [] newD)) C cl fp
  have nf3 : ∀ b ∈ fp, (upd H2 D (DX X.prog X.w D [] newD)) b = none := fun b hb => (f3 b hb).1.1
  generalize hce : compEnvC scope cl C X.env = ce at I4 pg pt pk pe ⊢
  have cL : ce.locals = C := by subst hce; rfl
  generalize upd H2 D (DX X.prog X.w D [] newD) = H3 at I3 I4 pg pt pk pe w0 nf3 f3
  generalize hs4 : ({ s3 with heap := pushCells (s3.heap.push { cls := .type "dict", data := .dict #[] }) scope.names } : Shared) = s4 at I4 ⊢
  have st4 : tn 0 s4.heap := T.keep _ _ _ st2 fun b _ o e => by rw [← hs4]; exact pushCells_keeps _ _ _ _ (Heap.get?_push_of_some _ (by rw [h3]; exact Heap.get?_push_of_some _ e))
  have own' : ∀ {σ' : L2.St} {H' : Hp} {s' : Shared}, Inv (X.blk s3 H3 scope ce fp) [] σ' H' s' → (∀ b ∈ fp, H' b = none) → ∀ b ∈ fp, FpOk (X.blk s3 H3 scope ce fp) [] H' b := fun {σ' H' s'} I' hn b hb =>
    ⟨hn b hb, (I'.ok.exf b hb).1, I'.ok.exfs b hb, .inl hb, fun x c e => (I'.ok.exf b hb).2 x c e, fun p hp => absurd (show p ∈ ([] : List (Addr × Obj)) ++ [] from hp) (by simp)⟩
  have loop : codeAny (model X.prog X.w) X.A (.compLoop (.DictComp kx vx [⟨tg, iter, ifs, 0⟩] scope pos) 0 (.ref it) (.ref D) ce) (compPost (model X.prog X.w) X.A X.xe use Qf (.ref D) C) s4 := by
    refine compLoop_anyD (fun n s' => ∃ i H', Inv (X.blk s3 H3 scope ce fp) [] (wipe σ (own.map (·.2))) H' s' ∧ tn i s'.heap ∧ (∀ b ∈ fp, H' b = none) ∧ W i n H') ?_ m0 ⟨0, H3, I4, st4, nf3, w0⟩
    rintro n s5 ⟨i, H5, I5, st5, n5, w5⟩
    rcases turn i n H5 w5 with ⟨stop, qq⟩ | ⟨go, Nx, hNx, step⟩
    · refine thnF (T.done (X.blk s3 H3 scope ce fp) rfl rfl rfl hc i [] s5 _ H5 (fun _ _ => False) I5 (own' I5 n5) st5 stop) fun r s6 ⟨hr, I6⟩ => ?_
      subst hr
      have I7 : Inv X pins σ H5 s6 := I3.call' (ch := fp) I6.os I6.base I6.hok I6.bare fun b hb => ⟨(f3 b hb).1.2.2.2.1, (f3 b hb).1.2.1, (f3 b hb).1.2.2.2.2.1, (f3 b hb).1.2.2.2.2.2⟩
      have nC : H5 C = none := by
        have z : H5 ce.locals = none := I6.free
        rwa [cL] at z
      obtain ⟨m, hn, _⟩ := I6.loc
      have hn : s6.heap.Ns ce.locals m := hn
      rw [cL] at hn
      exact hRR D C s6 m H5 I7 qq hn (I3.fpOk (Nat.le_of_eq hC) nC)
    · refine thnF (T.item (X.blk s3 H3 scope ce fp) rfl rfl rfl hc i [] s5 _ H5 (fun _ _ => False) I5 (own' I5 n5) st5 go) fun r s6 ⟨u, hr, h6⟩ => ?_
      subst hr
      refine thnF h6 fun _ s7 ⟨x, H7, I7, r7, y7, st7, n7⟩ => ?_
      refine thnF (pg.run _ s7 _ H7 x u _ (I7.pinned (own' I7 n7) (T.obj _ _ st7)) r7 (step x H7 y7)) fun _ s8 ⟨σ8, H8, I8, hw8, q8⟩ => thnF (pt.run _ s8 σ8 H8 _ I8 q8) fun b s9 ⟨H9, I9, q9⟩ => ?_
      have fin : ∀ {s' : Shared} {H' : Hp}, Inv (X.blk s3 H3 scope ce fp) ([] ++ pinsAt fp s7.heap) σ8 H' s' → Nx H' → ∃ m, m < n ∧ ∃ i H', Inv (X.blk s3 H3 scope ce fp) [] (wipe σ (own.map (·.2))) H' s' ∧ tn i s'.heap ∧ (∀ b ∈ fp, H' b = none) ∧ W i m H' := fun {s' H'} I' nx => by
        obtain ⟨m', hm, w'⟩ := hNx H' nx
        have same : ∀ b ∈ fp, ∀ o, s7.heap.get? b = some o → s'.heap.get? b = some o ∧ H' b = none := fun b hb o e =>
          let z := I'.pin (b, o) (List.mem_append_right _ (List.mem_append_right _ (mem_pinsAt hb e)))
          ⟨z.1, z.2.1⟩
        refine ⟨m', hm, i + 1, H', (I'.unpinned (pins := [])).weak (by rw [← hw8, wipe_length]) (fun j v e => ?_), T.keep _ _ _ st7 fun b hb o e => (same b hb o e).1, fun b hb => ?_, w'⟩
        · rw [← hw8] at e
          exact (wipe_some e).1
        · obtain ⟨o, e, _⟩ := T.obj _ _ st7 b hb
          exact (same b hb o e).2
      cases b with
      | false =>
        simp only [Bool.false_eq_true, if_false] at q9 ⊢
        exact fin I9 q9
      | true =>
        simp only [if_true] at q9 ⊢
        refine thnF (pk.run _ s9 σ8 H9 _ I9 q9) fun z s10 ⟨yk, H10, I10, r10, q10⟩ => thnF (pe.run _ s10 σ8 H10 _ I10 q10) fun z2 s11 ⟨yv, H11, I11, r11, kvs, c, k, ek, hD11, hc11, hz11, nx⟩ => ?_
        subst ek
        obtain rfl : z = Value.ref c := r10
        exact dx_dictSet (X := X.blk s3 H3 scope ce fp) hu I11 hD11 hc11 hz11 r11 fun H12 s12 d12 k12 I12 => fin I12 (nx H12 d12 k12)
  exact codeAny_compStart_dict loop (T.self X.A 0 _ _ _ st4 loop)
theorem ps_setDcX {P : Program} {w : World} {K : PySem.W.Frag} {i : Nat} {y : Str} {py : Pos} {kx vx tg iter : Expr} {ifs : List Expr} {scope : Scope} {own : List (Str × Nat)} {pos spos : Pos} {wi : TI} {g : TG} {tt : TT} {tk tv : TE} (hX : X.prog = P ∧ X.w = w ∧ X.K = K) (hu : X.A.units < cLine) (hc : X.calm = true) (hN : X.N.Nodup) (hy : X.N[i]? = some y) (hyl : X.env.scope.names.lookup y = some .local)
    (hsw : swapsWith (.DictComp kx vx [⟨tg, iter, ifs, 0⟩] scope pos) (some (.Name y py)) spos.line X.env = pure true) (hi : PI X tg iter wi) (ok : BlkOk X.N X.env.scope scope own)
    (hg : ∀ (s : Shared) (H : Hp) (C : Addr) (cl : List (Str × Addr)) (fp : List Addr), PG (X.blk s H scope (compEnvC scope cl C X.env) fp) tg g) (ht : ∀ (s : Shared) (H : Hp) (C : Addr) (cl : List (Str × Addr)) (fp : List Addr), PTs (X.blk s H scope (compEnvC scope cl C X.env) fp) ifs tt)
    (hk : ∀ (s : Shared) (H : Hp) (C : Addr) (cl : List (Str × Addr)) (fp : List Addr), PE (X.blk s H scope (compEnvC scope cl C X.env) fp) kx tk)
    (he : ∀ (s : Shared) (H : Hp) (C : Addr) (cl : List (Str × Addr)) (fp : List Addr), PE (X.blk s H scope (compEnvC scope cl C X.env) fp) vx tv) (hs : ∀ x, foldedSetIterable iter X.env x = pure x := by intro _; rfl) :
    PS X (.Assign [.Name y py] (.DictComp kx vx [⟨tg, iter, ifs, 0⟩] scope pos) spos) (tAsg (tDcX P w K wi g tt tk tv (own.map (·.2))) (gName i)) := by
  obtain ⟨rfl, rfl, rfl⟩ := hX
  refine ⟨fun pins s σ H D I h => ?_⟩
  rw [exec_Assign_Name_used _ _ _ _ hsw]
  refine wpAny_bind (wpAny_standAt (wpAny_bind ?_))
  show wpAny _ X.A (do let _ ← comprehension (.DictComp kx vx [⟨tg, iter, ifs, 0⟩] scope pos) scope X.env (firstIterPos [⟨tg, iter, ifs, 0⟩] pos) newDict false (eval iter X.env) (some (assign (.Name y py) X.env))) _ _ s
  have h : tDcX X.prog X.w X.K wi g tt tk tv (own.map (·.2)) σ H (fun x H1 => gName i x σ H1 D.nx) := h
  refine wpAny_bind (thn (dcx_core (Qf := fun _ s' => SP X pins D .next s') hu hc hN I hi ok hg ht hk he hs h fun L C s' m H' I' q hn f => ?_) fun _ s' hq => wpAny_pure (wpAny_pure hq))
  show wpAny _ _ (assign (.Name y py) X.env (.ref L)) _ _ _
  refine wpAny_assign_Name (store_ok2 (v := L2.V.ref L) I' hN hy (.inl hyl) rfl (fun s2 I2 ⟨a, sb, ha⟩ => ?_) (.inr hyl))
  obtain ⟨f0, f1, f2, f3, f4, f5⟩ := f
  have haC : C ≠ a := ha.elim (fun z => by rw [z]; exact f1) fun z e => f4 y a z e.symm
  exact ⟨m, hn.sameBut sb haC, fun h3 sb3 => ⟨_, H', I2.turned (t' := s2.toks) (fun b o hb e => (sb3.2 b hb).trans e) f0 f1 f3 f4 f5, q⟩⟩
theorem sw_dict {kx vx : Expr} {gs : List Comprehension} {scope : Scope} {pos py : Pos} {y : Str} {l : Nat} {env : Env} (hk : env.scope.kind = .function) (hy : env.scope.names.lookup y = some .local) (hl : (py.line == pos.line) = true)
    (ha : (scope.names.any fun (n, k) => n == y && (k == .local || k == .cell)) = false) : swapsWith (.DictComp kx vx gs scope pos) (some (.Name y py)) l env = pure true := by
  have e1 : env.kindOf y = some .local := hy
  have e2 : env.blockKind = .function := by unfold Env.blockKind; rw [hk]; rfl
  unfold swapsWith
  simp only [e1, e2, ha, Expr.pos, hl]
  rfl
end
end KC
set_option Elab.async false
set_option linter.all false
set_option maxRecDepth 100000
set_option maxHeartbeats 4000000
/-! all(..) over a list of ints, and over the keys of a dict with tuple keys. -/
namespace KC
open PySem PySem.Spec PyProof.Rows L2 StX GX Evl
theorem pair_at {α β : Type} {F : α → β → Prop} : ∀ {xs : List α} {ys : List β}, Paired F xs ys → ∀ {i : Nat} {x : α} {y : β}, xs[i]? = some x → ys[i]? = some y → F x y
  | _, _, .nil, i, x, y, h, _ => by simp at h
  | _, _, .cons a _, 0, x, y, h1, h2 => by
    obtain rfl := Option.some.inj (show some _ = some _ from h1)
    obtain rfl := Option.some.inj (show some _ = some _ from h2)
    exact a
  | _, _, .cons _ t, i + 1, x, y, h1, h2 => pair_at t (i := i) (by simpa using h1) (by simpa using h2)
section
variable {P : Program} {w : World} {K : PySem.W.Frag} {σ : L2.St} {H H' : Hp} {ta tb tc te tx tl td : TE} {D : Ends} {tz : TS}
/-- all(b(x) for x in xs) -/
theorem ev_allL {Pt l : Addr} {cm : List (Option Nat)} {own : List Nat} {xs : List Int} (b : Int → Bool) (h : Ev tl σ H (.ref l)) (hx : SqL K H l (xs.map L2.V.int)) (hn : xs.length ≤ 1000) (tab : H Pt = some (TabX Pt))
    (hw : ∀ x, wipe ((captS cm σ).set 0 (some x)) own = captS cm σ) (he : ∀ x ∈ xs, ∀ H1, Ex H H1 → Ev te ((captS cm σ).set 0 (some (.int x))) H1 (.bl (b x))) :
    Ev (tAllG (tGx Pt (iList K tl) (gName 0) tYes te cm own)) σ H (.bl (xs.all b)) := fun H1 e Q q =>
  h H1 e _ fun H3 e13 => by
    have e03 := e.trans e13
    have hxl : (xs.map L2.V.int).length = xs.length := List.length_map _
    refine ⟨l, rfl, ⟨_, ex_l e03 hx⟩, e03 Pt _ tab, fun i m zs H' => m + i = xs.length ∧ Ex H3 H' ∧ zs = (xs.take i).map fun x => L2.V.bl (b x), ⟨xs.length, by omega, Ex.refl _, rfl⟩, ?_⟩
    rintro i m zs H' ⟨hm, e4, rfl⟩
    have e04 := e03.trans e4
    by_cases hi : i < xs.length
    · right
      refine ⟨⟨_, _, ex_l e04 hx, int_at hi⟩, fun zs H5 => (m - 1) + (i + 1) = xs.length ∧ Ex H3 H5 ∧ zs = (xs.take (i + 1)).map fun x => L2.V.bl (b x), fun zs H5 q => ⟨m - 1, by omega, q⟩, ?_⟩
      rintro v H5 ⟨rfl, hx1⟩
      have ex1 := (Option.some.inj ((int_at hi).symm.trans (hx1 _ (ex_l e04 hx)))).symm
      subst ex1
      have hxi : xs.getD i 0 = xs[i] := by rw [List.getD_eq_getElem?_getD, List.getElem?_eq_getElem hi] <;> rfl
      have hmem : xs.getD i 0 ∈ xs := by rw [hxi]; exact List.getElem_mem hi
      have htk : xs.take (i + 1) = xs.take i ++ [xs.getD i 0] := by rw [hxi]; exact (List.take_append_getElem hi).symm
      refine ⟨hw _, tt_yes ?_⟩
      refine he _ hmem _ e04 _ (Ex.refl _) _ fun H7 e7 => ?_
      refine ⟨sz_lt (by rw [List.length_map, List.length_take]; omega), ⟨_, rfl, fun z => ?_⟩, by omega, e4.trans e7, ?_⟩
      · have : xs.all b = false := List.all_eq_false.mpr ⟨_, hmem, by rw [z]; exact Bool.false_ne_true⟩
        rw [← this]
        exact q _ ((e13.trans e4).trans e7)
      · rw [htk, List.map_append]
        rfl
    · left
      have hin : i = xs.length := by omega
      subst hin
      refine ⟨⟨_, ex_l e04 hx, by rw [hxl]; exact Nat.le_refl _⟩, fun hno => ?_⟩
      rw [List.take_length] at hno
      have hr : xs.all b = true := by
        rw [List.all_eq_true]
        intro x hx2
        cases hb : b x with
        | true => rfl
        | false => exact absurd rfl (hno _ (List.mem_map.mpr ⟨x, hx2, by rw [hb]⟩))
      rw [← hr]
      exact q H' (e13.trans e4)
/-- all(b(k) for k in d) -/
theorem ev_allX {Pt d : Addr} {cm : List (Option Nat)} {own : List Nat} {kvs : List (List Key × L2.V)} (b : List Key → Bool) (h : Ev td σ H (.ref d)) (hd : DAt P w K H d kvs) (hn : kvs.length ≤ 90000) (tab : H Pt = some (TabX Pt))
    (hw : ∀ x, wipe ((captS cm σ).set 0 (some x)) own = captS cm σ) (he : ∀ kv ∈ kvs, ∀ q H1, Ex H H1 → SqT K H1 q (kv.1.map kV) → Ev te ((captS cm σ).set 0 (some (.ref q))) H1 (.bl (b kv.1))) :
    Ev (tAllG (tGx Pt (iDX P w td) (gName 0) tYes te cm own)) σ H (.bl (kvs.all fun kv => b kv.1)) := fun H1 e Q q =>
  h H1 e _ fun H3 e13 => by
    have e03 := e.trans e13
    obtain ⟨xs, o, ho, hk⟩ := hd
    have hl : xs.length = kvs.length := (Paired.length hk).symm
    have hks := isKeysX_of hk
    refine ⟨d, xs, o, rfl, e03 _ _ ho, e03 Pt _ tab, fun i m zs H' => m + i = kvs.length ∧ Ex H3 H' ∧ zs = (kvs.take i).map fun kv => L2.V.bl (b kv.1), ⟨kvs.length, by omega, Ex.refl _, rfl⟩, ?_⟩
    rintro i m zs H' ⟨hm, e4, rfl⟩
    have e04 := e03.trans e4
    by_cases hi : i < kvs.length
    · right
      refine ⟨⟨e04 _ _ ho, by rw [List.length_map]; omega⟩, fun zs H5 => (m - 1) + (i + 1) = kvs.length ∧ Ex H3 H5 ∧ zs = (kvs.take (i + 1)).map fun kv => L2.V.bl (b kv.1), fun zs H5 q => ⟨m - 1, by omega, q⟩, ?_⟩
      rintro v H5 ⟨rfl, c, hc, rfl⟩
      have hki : kvs[i]? = some kvs[i] := List.getElem?_eq_getElem hi
      have hmem : kvs[i] ∈ kvs := List.getElem_mem hi
      have hkc : SqT K H c (kvs[i].1.map kV) := pair_at hks hki hc
      have htk : kvs.take (i + 1) = kvs.take i ++ [kvs[i]] := (List.take_append_getElem hi).symm
      refine ⟨hw _, tt_yes ?_⟩
      refine he _ hmem c H5 e04 (ex_t e04 hkc) _ (Ex.refl _) _ fun H7 e7 => ?_
      refine ⟨sz_lt (by rw [List.length_map, List.length_take]; omega), ⟨_, rfl, fun z => ?_⟩, by omega, e4.trans e7, ?_⟩
      · have : (kvs.all fun kv => b kv.1) = false := List.all_eq_false.mpr ⟨_, hmem, by rw [z]; exact Bool.false_ne_true⟩
        rw [← this]
        exact q _ ((e13.trans e4).trans e7)
      · rw [htk, List.map_append]
        rfl
    · left
      have hin : i = kvs.length := by omega
      subst hin
      refine ⟨⟨e04 _ _ ho, by rw [List.length_map]; omega⟩, fun hno => ?_⟩
      rw [List.take_length] at hno
      have hr : (kvs.all fun kv => b kv.1) = true := by
        rw [List.all_eq_true]
        intro x hx2
        cases hb : b x.1 with
        | true => rfl
        | false => exact absurd rfl (hno _ (List.mem_map.mpr ⟨x, hx2, by rw [hb]⟩))
      rw [← hr]
      exact q H' (e13.trans e4)
end
end KC
set_option Elab.async false
set_option linter.all false
set_option maxRecDepth 100000
set_option maxHeartbeats 4000000
/-! {k: f(k) for k in d}, keys that are tuples. -/
namespace KC
open PySem PySem.Spec PyProof.Rows L2 StX GX Evl
theorem val_fresh {f : List Key → L2.V} : ∀ {ps : List (List Key × L2.V)} {k : List Key}, k ∉ ps.map (·.1) → valV (ps.map fun kv => (kv.1, f kv.1)) k = none
  | [], _, _ => rfl
  | p :: ps, k, h => by
    rw [List.map_cons, List.mem_cons] at h
    rw [List.map_cons, valV_neg (p := (p.1, f p.1)) (fun e => h (.inl e.symm))]
    exact val_fresh fun z => h (.inr z)
section
variable {P : Program} {w : World} {K : PySem.W.Frag} {σ : L2.St} {H : Hp} {D : Ends} {tz : TS} {td tk tv : TE}
theorem q_dcX {i j : Nat} {d : Addr} {vs : List Nat} {kvs : List (List Key × L2.V)} (f : List Key → L2.V) (h : Ev td σ H (.ref d)) (hd : DAt P w K H d kvs) (hn : kvs.length ≤ 90000) (hnd : (kvs.map (·.1)).Nodup)
    (hw : ∀ x, wipe ((wipe σ vs).set j (some x)) vs = wipe σ vs) (hk : ∀ q H1, Ex H H1 → Ev tk ((wipe σ vs).set j (some (.ref q))) H1 (.ref q))
    (he : ∀ kv ∈ kvs, ∀ q H1, Ex H H1 → SqT K H1 q (kv.1.map kV) → Ev tv ((wipe σ vs).set j (some (.ref q))) H1 (f kv.1))
    (k : ∀ p H1, H p = none → Ex H H1 → DAt P w K H1 p (kvs.map fun kv => (kv.1, f kv.1)) → tz D (σ.set i (some (.ref p))) H1) : tSeq (tAsg (tDcX P w K (iDX P w td) (gName j) tYes tk tv vs) (gName i)) tz D σ H := by
  refine h H (Ex.refl H) _ fun H1 e1 => ?_
  have hd1 := hd.ext e1
  obtain ⟨xs, o, ho, hkx⟩ := hd1
  have hl : xs.length = kvs.length := (Paired.length hkx).symm
  refine ⟨d, xs, o, rfl, ho, fun Dl hD => ⟨fun i m H' => m + i = kvs.length ∧ Ex H1 H' ∧ DAt P w K H' Dl ((kvs.take i).map fun kv => (kv.1, f kv.1)), ⟨kvs.length, by omega, Ex.new hD, ⟨[], newD, upd_same, .nil⟩⟩, ?_⟩⟩
  rintro i' m H' ⟨hm, e2, hda⟩
  by_cases hi : i' < kvs.length
  · right
    refine ⟨⟨e2 _ _ ho, by rw [List.length_map]; omega⟩, fun H5 => (m - 1) + (i' + 1) = kvs.length ∧ Ex H1 H5 ∧ DAt P w K H5 Dl ((kvs.take (i' + 1)).map fun kv => (kv.1, f kv.1)), fun H5 q => ⟨m - 1, by omega, q⟩, ?_⟩
    rintro v H5 ⟨rfl, c, hc, rfl⟩
    have hki : kvs[i']? = some kvs[i'] := List.getElem?_eq_getElem hi
    have hkc : SqT K H5 c (kvs[i'].1.map kV) := ex_t e2 (pair_at (isKeysX_of hkx) hki hc)
    have htk : kvs.take (i' + 1) = kvs.take i' ++ [kvs[i']] := (List.take_append_getElem hi).symm
    refine ⟨hw _, tt_yes (hk c H5 (e1.trans e2) H5 (Ex.refl _) _ fun H6 e6 => he _ (List.getElem_mem hi) c H5 (e1.trans e2) hkc H6 e6 _ fun H7 e7 => ?_)⟩
    have hfr : kvs[i'].1 ∉ (kvs.take i').map (·.1) := fun z => by
      have h2 := hnd
      rw [← List.take_append_drop i' kvs, List.drop_eq_getElem_cons hi, List.map_append, List.map_cons, List.nodup_append] at h2
      exact h2.2.2 _ z _ List.mem_cons_self rfl
    refine ⟨_, c, kvs[i'].1, rfl, hda.ext (e6.trans e7), ex_t (e6.trans e7) hkc, sz_lt (by rw [List.length_map, List.length_take]; omega), fun H8 d8 k8 => ⟨by omega, ex_but ((e2.trans e6).trans e7) hD k8, ?_⟩⟩
    rw [putK_new _ (val_fresh hfr)] at d8
    rw [htk, List.map_append]
    exact d8
  · left
    have hin : i' = kvs.length := by omega
    subst hin
    rw [List.take_length] at hda
    exact ⟨⟨e2 _ _ ho, by rw [List.length_map]; omega⟩, k Dl H' (fresh_back e1 hD) (e1.trans e2) hda⟩
end
end KC
set_option Elab.async false
set_option linter.all false
set_option maxRecDepth 100000
set_option maxHeartbeats 4000000
/-! Own exceptions whose __init__ reads self.__class__.__name__: the two attributes. -/
namespace KX
open PySem PySem.W PySem.Calls PyProof.Rows Builtin Builtin.ObjectAttr Builtin.Getset_descriptor
section
variable {prog : Program} {w : World} {A : Around} {E : Value → Shared → Prop} {s : Shared} {K : Frag} {R : Result → Shared → Prop} {C : Addr}
theorem nam_args (d tp : Value) (C : Addr) : descrGetArgs ⟨[d, .ref C, tp], []⟩ = pure (d, some (.ref C), given tp) := by first | rfl | kernel_rfl
/-- the getter of a class's name, where the name is kept -/
theorem nam_get {tp v : Value} {o : Obj} (X : K.In s.heap) (hk : K.lookup C = some o) (hs : o.slots[2]? = some (some v)) (tC : typeIn K (.ref C) = some (.type "type")) (h : R (.ok (.ret v)) s) :
    codeAny (model prog w) A (.call (.builtin "getset_descriptor.__get__") ⟨[.builtin "type.__name__", .ref C, tp], []⟩) R s := by
  obtain ⟨hh, g, dr, t, os⟩ := s
  have T0 : Looks (model prog w) hh (typeOf (.ref C)) (.type "type") := looks_typeIn X tC
  have T1 : Looks (model prog w) hh (isSubtype (.type "type") (.type "type")) true := Looks.of_pure (by rw [isSubtype_type] <;> kernel_rfl)
  refine codeAny_call_builtin KF.slot_gs.plain KF.entry_gs (KF.slot_gs.check _ _ _ _ _ _ _ _ ktyn_type (KF.args_gs _ _ _) ?_)
  unfold Builtin.«getset_descriptor.__get__» descrGet
  rw [nam_args]
  refine wpAny_bind (wpAny_pure ?_)
  unfold descrGetter descrCheckInstance descrNameAndClass isInstance
  simp only [ktyn_owner]
  repeat lk
  refine ⟨Code.quiet_builtin _ (by decide +kernel), codeAny_builtin ktyn_entry ?_⟩
  unfold Builtin.«type.__name__»
  dsimp only
  unfold keptObject slotAt
  dsimp only
  have ho := X _ _ hk
  refine wpAny_bind (wpAny_bind (wpAny_loadPart ho (wpAny_pure ?_)))
  rw [hs]
  first
    | exact wpAny_bind (wpAny_pure (wpAny_pure h))
    | exact wpAny_pure (wpAny_pure h)
    | exact wpAny_bind (wpAny_bind (wpAny_pure h))
    | (show wpAny _ _ (ret v >>= _) _ _ _; exact wpAny_bind (wpAny_pure (wpAny_pure h)))
/-- e.__class__, e an exception of an own class -/
theorem exc_cls {x : Addr} {ox : Obj} {od : Option Obj} {expr : Bool} {gt : Option Value} {Q : Value → Shared → Prop} (X : K.In s.heap) (I : InstAt s.heap x ox C od) (g1 : findIn K (.ref C) "__getattribute__" = some (some (.builtin "BaseException.__getattribute__")))
    (g2 : findIn K (.ref C) "__getattr__" = some gt) (g3 : subIn K (.ref C) (.type "BaseException") = some true) (g4 : findObj K C od "__class__" = some (.bind (.builtin "getset_descriptor.__get__") (.builtin "object.__class__"))) (g5 : mroIn K C (.type "object") = some true)
    (q : Q (.ref C) { s with toks := s.toks + 1 }) : wpAny (model prog w) A (getAttr (.ref x) "__class__" expr) Q E s := by
  obtain ⟨hh, gg, dd, tt, oo⟩ := s
  have a0 := I.type (M := model prog w)
  have a3 := looks_find (M := model prog w) X I g4
  have sub : Looks (model prog w) hh (isInstance (.ref x) (.type "BaseException")) true := a0.andThen (looks_subIn X g3)
  have nb : (Value.builtin "BaseException.__getattribute__" == Value.builtin "object.__getattribute__") = false := by decide +kernel
  have n1 : (onTheHeap (Value.ref C) && Value.builtin "BaseException.__getattribute__" == Value.builtin "object.__getattribute__") = false := (congrArg (onTheHeap (Value.ref C) && ·) nb).trans (Bool.and_false _)
  have n0 : (expr && onTheHeap (Value.builtin "BaseException.__getattribute__")) = false := by cases expr <;> rfl
  unfold getAttr getAttrBy
  refine wpAny_bind (wpAny_mkText (wpAny_holding (wpAny_bind (a0.at (wpAny_bind ((looks_findIn X g1).at ?_)))))); show wpAny _ _ (if (onTheHeap (Value.ref C) && Value.builtin "BaseException.__getattribute__" == Value.builtin "object.__getattribute__") = true then _ else _) _ _ _
  rw [n1, if_neg Bool.false_ne_true]; unfold getAttrByItsOwn hookBefore
  refine wpAny_bind ?_; rw [if_pos (show onTheHeap (Value.ref C) = true from rfl)]
  refine (looks_findIn X g2).at (wpAny_bind (wpAny_attempt (wpAny_holding ?_))); unfold callGetattribute
  rw [n0, if_neg Bool.false_ne_true]; unfold boundAndCalled
  rw [PySem.F.excAttr_ValueError.ga.bind (.ref x)]; refine wpAny_bind (wpAny_pure ?_); show wpAny _ _ (call (.builtin "BaseException.__getattribute__") [.ref x, .str "__class__" tt]) _ _ _
  refine wpAny_call (codeAny_call_builtin PySem.F.excAttr_ValueError.ga.plain PySem.F.entry_bexc_ga (@PySem.W.check_slot (model prog w) _ _ ⟨hh, gg, dd, tt + 1, oo⟩ "BaseException.__getattribute__" "BaseException" "__getattribute__" (.ref x) [.str "__class__" tt] [] _ (by decide +kernel) (by decide +kernel) sub (PySem.F.args_bexc_ga (.ref x) (.str "__class__" tt)) ?_))
  unfold Builtin.«object.__getattribute__»; refine wpAny_bind (wpAny_of_eq (a := ((Value.ref x : Value), [Value.str "__class__" tt])) (by first | rfl | (simp only [slotArgs]; rfl)) (wpAny_bind (wpAny_pure (wpAny_bind (a0.at (wpAny_bind (a3.at ?_)))))))
  refine wpAny_bind (wpAny_holding (wpAny_call (class_get (s := ⟨hh, gg, dd, tt + 1, oo⟩) (ox := ox) (od := od) X I g5 ?_))); refine wpAny_pure ?_
  show wpAny _ _ (handedOut (.ref C)) _ _ _
  rw [handedOut_of (show handedIn (.ref C) = true from rfl)]
  first
    | exact wpAny_pure q
    | exact wpAny_pure (wpAny_pure q)
end
open L2
/-- what the written part says of a class's name -/
structure NamK (K : PySem.W.Frag) (C : Addr) (nm : Str) : Prop where
  ob : ∃ (o : Obj) (tk : Tok), K.lookup C = some o ∧ o.slots[2]? = some (some (.str nm tk))
  ty : PySem.W.typeIn K (.ref C) = some (.type "type")
  rd : PySem.W.readsIn K C (.type "type") = true
  fd : PySem.W.findCls K (.ref C) (.type "type") "__name__" = some (.get (.builtin "getset_descriptor.__get__") (.builtin "type.__name__") (.ref C) (.type "type"))
def tECls (K : PySem.W.Frag) (te : TE) : TE := fun σ H Q => te σ H fun x H1 => ∃ (a C dx : Addr) (fs : List (Str × V)), x = .ref a ∧ ExcC K C ∧ H1 a = some (exo a C (some dx)) ∧ H1 dx = some (exd dx fs) ∧ Q (.ref C) H1
def tCNam (K : PySem.W.Frag) (te : TE) : TE := fun σ H Q => te σ H fun x H1 => ∃ (C : Addr) (nm : Str), x = .ref C ∧ NamK K C nm ∧ Q (.str nm) H1
/-- BaseException.__init__ over an exception that has its dict -/
theorem init_dict {prog : Program} {w : World} {A : Around} {R : Result → Shared → Prop} {h : Heap} {g : Array GenState} {d : Drawn} {t : Nat} {os : OsState} {nm q : Str} {C N : Addr} {bs bm bmB : List Value} {hdct : Bool} {sn : List Str} {sub : List Value} {ab : Bool} {col : Option Bool} {dd : Option Addr} {k0 k1 k2 k3 k5 : Option Value} {B newId initId : String}
    (F : ExcBaseFacts B newId initId bmB) (hT : ∀ X : String, bm.contains (.type X) = bmB.contains (.type X)) {e t0 : Addr} {od : Option Addr} {rest : List Value} (hC : h.get? C = some (excClassObj nm q C N bs bm hdct sn sub ab col dd k0 k1 k2 k3 k5 newId))
    (he : h.get? e = some ({ cls := .ref C, dict := od, data := .fields #[.ref t0, .none, .none, .none, .bool false, .none] } : Obj)) (hr : rest.length ≤ sizeLine)
    (hq : ∀ h' (t1 : Addr), (∀ b o, b ≠ e → h.get? b = some o → h'.get? b = some o) → h'.get? e = some ({ cls := .ref C, dict := od, data := .fields #[.ref t1, .none, .none, .none, .bool false, .none] } : Obj) → R (.ok (.ret .none)) ⟨h', g, d, t, os⟩) :
    codeAny (model prog w) A (.call (.builtin initId) ⟨.ref e :: rest, []⟩) R ⟨h, g, d, t, os⟩ := by
  refine codeAny_call_builtin F.init.plain F.initEntry (PySem.HandSPX.check_init_own F hT hC he rfl ?_)
  wp_walk
  refine hq _ h.objs.size (fun b o hb ho => ?_) ?_
  · rw [Heap.get?_update_other _ _ (fun z => hb z.symm), Heap.get?_push_of_some _ ho]
  · rw [Heap.get?_update_self _ (Heap.get?_push_of_some _ he) rfl]; rfl
section
variable {X : Cx} {pins : List (Addr × Obj)} {σ : L2.St} {H : Hp} {s : Shared} {A : Around} {E : Value → Shared → Prop} {C a : Addr}
theorem init_okD {us : List Value} {od : Option Addr} {Q : Value → Shared → Prop} (T : OexC X.K C) (I : Inv X pins σ H s) (e : H a = some (exo a C od)) (hl : us.length ≤ sizeLine) (h : ∀ s', Inv X pins σ H s' → Q .none s') :
    wpAny (model X.prog X.w) A (call (.builtin "ValueError.__init__") (.ref a :: us)) Q E s := by
  obtain ⟨nm, q, N, bs, bm, sn, sub, ab, col, dd, k0, k1, k2, k3, k5, hC, hbm⟩ := T.cls
  obtain ⟨t1, ho⟩ := exo_at I.hok e
  obtain ⟨hp, g, d, t, os⟩ := s
  refine wpAny_call (init_dict F.excBase_ValueError (fun Y => PySem.HandSPX.refsVE_contains Y bm hbm) (I.kIn _ _ hC) ho hl fun h' t2 k hx => ?_)
  have J := I.write (t' := t) (x := a) (e := a) (o := exo a C od) (by rw [e]; exact True.intro) (.inl rfl) k ⟨_, hx⟩ (exo_ok hx)
  have eu : upd H a (exo a C od) = H := GX.upd_id e
  rw [eu] at J
  exact h _ J
end
section
variable {X : Cx} {e : Expr} {te : TE} {pos : Pos}
/-- ValueError.__init__(self, ..), self with or without its dict -/
def tVeD (K : PySem.W.Frag) (ta : TA) : TE := fun σ H Q => ta σ H fun vs H1 => ∃ (a C : Addr) (od : Option Addr) (ws : List V), vs = .ref a :: ws ∧ ws.length ≤ 1000 ∧ OexC K C ∧ H1 a = some (exo a C od) ∧ Q .non H1
theorem pe_veD {es : List Expr} {ta : TA} {p1 p2 : Pos} {pl : Sem Bool} (hg : Gl X "ValueError") (hm : X.mg "ValueError" = none) (vV : PySem.W.findCls X.K (.type "ValueError") (.type "type") "__init__" = some (.val (.builtin "ValueError.__init__"))) (ha : PA X (e :: es) ta)
    (hc : eval (.Call (.Attribute (.Name "ValueError" p1) "__init__" p2) (e :: es) [] pos) X.env = (eval (.Name "ValueError" p1) X.env >>= fun ov => standAt p2.atName >>= fun _ => holding [ov] (getMethod ov "__init__" pl) >>= fun r => callWith pos r.1 r.2 (backTo pos (starEach (e :: es) X.env)) (backToKw pos (keywordEach [] X.env))) := by rfl)
    (he : starEach (e :: es) X.env = (false, eval e X.env) :: starEach es X.env := by rfl) (hpl : (backTo pos (starEach es X.env)).any (·.1) = false := by rfl) :
    PE X (.Call (.Attribute (.Name "ValueError" p1) "__init__" p2) (e :: es) [] pos) (tVeD X.K ta) := by
  refine ⟨fun pins s σ H Q I h => ?_⟩
  refine PySem.W.methodCall_KW (ld_blt I hg hm PyProof.Rows.Boot.«ValueError» ?_ (by decide) (by decide)) hc
  obtain ⟨m, fr⟩ := I.fr
  refine PySem.W.method_type fr I.ok.mod.kin PySem.OEX.typ_VE (by decide +kernel) vV (by decide +kernel) ?_
  show wpAny _ _ (callWith pos (Value.builtin "ValueError.__init__") [] (backTo pos (starEach (e :: es) X.env)) []) _ _ _
  refine PyProof.Rows.callWith_method1 (thn (ha.run pos pins _ σ H _ (I.tok _) h) fun us s1 ⟨vs, H1, I1, r1, a, C, od, ws, ev, hl, T, ea, q⟩ => ?_) he hpl
  subst ev
  cases r1 with
  | @cons _ u0 _ ur ra rr =>
    obtain rfl : u0 = Value.ref a := ra
    exact init_okD T I1 ea (by rw [← Paired.length rr, sizeLine_eq]; omega) fun s' J => ⟨.non, H1, J, rfl, q⟩
end
section
variable {X : Cx} {e : Expr} {te : TE} {pos : Pos}
theorem pe_cnam (he : PE X e te) (hb : attributeBase e "__name__" X.env (eval e X.env) = eval e X.env := by rfl) : PE X (.Attribute e "__name__" pos) (tCNam X.K te) := by
  refine ⟨fun pins s σ H Q I h => ?_⟩
  refine attr_of hb (thn (he.run pins s σ H _ I h) fun u s1 ⟨x, H1, I1, rx, C, nm, ex, N, q⟩ => ?_)
  subst ex
  obtain rfl : u = Value.ref C := rx
  obtain ⟨o, tk, k1, k2⟩ := N.ob
  refine PySem.W.cls_bind I1.kIn N.rd N.fd ?_
  have I2 := I1.tok (s1.toks + 1)
  refine wpAny_call (nam_get (s := { s1 with toks := s1.toks + 1 }) I2.kIn k1 k2 N.ty ?_)
  exact PySem.W.handed_on rfl ⟨.str nm, H1, I2, ⟨tk, rfl⟩, q⟩
theorem pe_ecls (he : PE X e te) (hb : attributeBase e "__class__" X.env (eval e X.env) = eval e X.env := by rfl) : PE X (.Attribute e "__class__" pos) (tECls X.K te) := by
  refine ⟨fun pins s σ H Q I h => ?_⟩
  refine attr_of hb (thn (he.run pins s σ H _ I h) fun u s1 ⟨x, H1, I1, rx, a, C, dx, fs, ex, T, ea, ed, q⟩ => ?_)
  subst ex
  obtain rfl : u = Value.ref a := rx
  obtain ⟨t1, ho⟩ := exo_at I1.hok ea
  obtain ⟨mA, hns, rel⟩ := exd_at I1.hok ed
  obtain ⟨oD, _, _, hoD, _, _⟩ := hns.count (within_of rel)
  have J : PySem.W.InstAt s1.heap a { cls := .ref C, dict := some dx, data := .fields #[.ref t1, .none, .none, .none, .bool false, .none] } C (some oD) := ⟨ho, rfl, rfl, hoD⟩
  obtain ⟨cd, hc, _⟩ := PySem.W.any_some T.hd
  exact exc_cls I1.kIn J T.hg T.hk T.hs (PySem.W.findObj_dataE (by rw [hc] <;> rfl) T.ha T.hn T.ht) T.hm ⟨.ref C, H1, I1.tok _, rfl, q⟩
end
end KX
set_option Elab.async false
set_option linter.all false
set_option maxRecDepth 100000
set_option maxHeartbeats 4000000
/-! try with several 'except C as e' that take all that comes. -/
namespace KX
open PySem PySem.Spec PyProof.Rows L2
def endsAs (i : Nat) (D : Ends) : Ends := { nx := fun σ H => D.nx (σ.set i none) H, rt := D.rt, bk := fun σ H => D.bk (σ.set i none) H, ct := fun σ H => D.ct (σ.set i none) H }
abbrev Cl := Value × Nat × (Addr → Value → Option Addr → TS)
def wAsAll (K : PySem.W.Frag) (D : Ends) : List Cl → WX
  | [] => fun _ _ _ _ => False
  | (c, i, ts) :: r => fun cls d σ H => ∃ b, PySem.W.exmOne K cls c = some b ∧ (b = true → ∀ a, H a = none → ts a cls d (endsAs i D) (σ.set i (some (.ref a))) H) ∧ (b = false → wAsAll K D r cls d σ H)
inductive ClOk (X : Cx) : List ExceptHandler → List Cl → Prop
  | nil {hs : List ExceptHandler} : ClOk X hs []
  | cons {x n : Str} {c : Value} {i : Nat} {ts : Addr → Value → Option Addr → TS} {b₀ : Stmt} {su : List Stmt} {np p : Pos} {hs : List ExceptHandler} {l : List Cl} (hc : Names X x c) (hi : X.N[i]? = some n) (hn : X.env.kindOf n = some .local)
      (hb : ∀ (a : Addr) (oe : Obj) (cls : Value) (d : Option Addr) (pn : List (Addr × Obj)), Zc cls d oe → (∃ vs, oe.data = .fields vs) → PSs (X.suite a ((a, oe) :: pn)) (b₀ :: su) (ts a cls d)) (r : ClOk X hs l) : ClOk X (.ExceptHandler (some (.Name x np)) (some n) (b₀ :: su) p :: hs) ((c, i, ts) :: l)
section
variable {X : Cx} {body : List Stmt} {h₀ : ExceptHandler} {hds : List ExceptHandler} {l : List Cl} {pos : Pos} {tb : WX → TS}
theorem ps_try_all (hst : X.stack = X.env :: X.outer) (hfm : X.env.frame = some X.env.locals) (hN : X.N.Nodup) (hb : ∀ (W : WX) (pn : List (Addr × Obj)) (xe : Value → Shared → Prop), Takes (X.tr pn xe) W → PassesOwn (model X.prog X.w) X.A X.env xe → PSs (X.tr pn xe) body (tb W)) (hh : ClOk X (h₀ :: hds) l) :
    PS X (.Try body (h₀ :: hds) [] [] pos) (fun D σ H => tb (wAsAll X.K D l) D σ H) := by
  refine ⟨fun pins s σ H D I h => wpAny_Try_except ?_⟩
  have okX := I.ok
  have frX : X.A.frames = some (X.env :: X.outer) := okX.frames.trans (congrArg some hst)
  refine wpAny_mono ((hb (wAsAll X.K D l) (X.pn ++ pins) (fun e t₁ => wpAny (model X.prog X.w) X.A (noteFrame e X.env) (fun _ t₂ => wpAny (model X.prog X.w) X.A (setFlight e none) (fun _ t₃ => wpAny (model X.prog X.w) X.A (handleBy e X.env (h₀ :: hds)) (SP X pins D) X.xe t₃) X.xe t₂) X.xe t₁) (fun u t xx => ?_) PassesOwn.looking).run [] s σ H D (I.toTry _) h) (fun f t ht => ?_) fun _ _ z => z
  · obtain ⟨a, B, sI, pins1, σ1, H1, cls, d, rfl, J0, nb, up, sky, na, os, ag, w⟩ := xx
    have J : Inv X pins σ1 H1 sI := J0.ofTry okX
    refine Sky.land Zc.steady frX hfm (by rw [← hst] <;> exact sky) fun h3 fl3 up3 => ?_
    have J3 : Inv X pins σ1 H1 { t with heap := h3 } := J.landed nb fl3.1 (up.trans up3) os ag
    obtain ⟨oe, vs, he, hz, hd⟩ := fl3.there
    have nfr : a ∉ frs (X.env :: X.outer) := fun hm => by
      obtain ⟨_, o, eo, no⟩ := fl3.2.2.1.mem hm
      exact no vs ((congrArg Obj.data (Option.some.inj (eo.symm.trans he))).trans hd)
    have nL : a ≠ X.env.locals := fun z => nfr (List.mem_filterMap.mpr ⟨X.env, List.mem_cons_self, hfm.trans (congrArg some z.symm)⟩)
    have nF : a ∉ X.fs := fun hm => let ⟨e, m, q⟩ := List.mem_filterMap.mp hm; nfr (List.mem_filterMap.mpr ⟨e, List.mem_cons_of_mem _ m, q⟩)
    have S3 := J3.suite he hd na nL nF
    have LT : PySem.W.Looks (model X.prog X.w) h3 (typeOf (.ref a)) cls := fun A Q E s k q => wpAny_typeOf_ref (k _ _ he) (hz.1 ▸ q)
    have go : ∀ {hs : List ExceptHandler} {l1 : List Cl}, ClOk X hs l1 → wAsAll X.K D l1 cls d σ1 H1 → wpAny (model X.prog X.w) X.A (handleBy (.ref a) X.env hs) (SP X pins D) X.xe { t with heap := h3 } := by
      intro hs l1 hk
      induction hk with
      | nil => exact fun z => False.elim z
      | @cons x n c i ts b₀ su np p hs2 l2 hc hi hn hsu r ih =>
        rintro ⟨b, hb1, yes, no⟩
        refine wpAny_handleBy_cons (codeAny_handlers_test ?_) (fun q => nomatch q)
        have nm : ∀ {Q : Value → Shared → Prop} {E : Value → Shared → Prop}, Q c { t with heap := h3 } → wpAny (model X.prog X.w) (X.A.mark (some (.ref a))) (eval (.Name x np) X.env) Q E { t with heap := h3 } := fun {Q E} q => match hc with
          | ⟨hg, hdb, .inl hm⟩ => ld_glob (X := X.suite a ((a, oe) :: (X.pn ++ pins))) S3 hg hm q hdb
          | ⟨hg, hdb, .inr ⟨hm, hv, hnn⟩⟩ => ld_blt (X := X.suite a ((a, oe) :: (X.pn ++ pins))) S3 hg hm hv q hnn hdb
        refine nm ((PySem.W.exm_one (M := model X.prog X.w) J3.kIn LT hb1).here ?_)
        cases b with
        | false =>
          show wpAny _ X.A (handleBy (.ref a) X.env hs2) _ _ _
          exact ih (no rfl)
        | true =>
          refine codeAny_handlers_suite_as (HandSPX.lands_againZ fl3 fun h4 fl4 up4 => ?_)
          have J4 : Inv X pins σ1 H1 { t with heap := h4 } := J.landed nb fl4.1 ((up.trans up3).trans up4) os ag
          obtain ⟨oe4, vs4, he4, hz4, hd4⟩ := fl4.there
          refine store_ok (X := X.suite a ((a, oe4) :: (X.pn ++ pins))) (v := .ref a) (J4.suite he4 hd4 na nL nF) hN hi (.inl hn) rfl (fun s5 S5 => ?_) (.inr hn)
          refine wpAny_mono ((hsu a oe4 cls d (X.pn ++ pins) hz4 ⟨_, hd4⟩).run [] s5 _ H1 _ S5 (yes rfl a na)) (fun f s6 hsp => ?_) fun _ _ z => z.elim
          have fin : ∀ {σ6 : L2.St} {H6 : Hp} {Q : Shared → Prop}, Inv (X.suite a ((a, oe4) :: (X.pn ++ pins))) [] σ6 H6 s6 → (∀ s7, Inv X pins (σ6.set i none) H6 s7 → Q s7) → wpAny (model X.prog X.w) X.A (do bindName X.env n .none; unbindBehindTheSuite X.env n p) (fun _ s7 => Q s7) X.xe s6 := fun S6 hq => gone_ok (S6.unsuite okX) hN hi hn hq
          match f, hsp with
          | .next, ⟨_, _, S6, q6⟩ => exact fin S6 fun _ J7 => ⟨_, _, J7, q6⟩
          | .brk, ⟨_, _, S6, q6⟩ => exact fin S6 fun _ J7 => ⟨_, _, J7, q6⟩
          | .cont, ⟨_, _, S6, q6⟩ => exact fin S6 fun _ J7 => ⟨_, _, J7, q6⟩
          | .ret u, ⟨_, _, _, S6, r6, q6⟩ => exact fin S6 fun _ J7 => ⟨_, _, _, J7, r6, q6⟩
    exact go hh w
  · match f, ht with
    | .next, ⟨_, _, J, q⟩ => exact wpAny_execs_nil ⟨_, _, J.ofTry okX, q⟩
    | .brk, ⟨_, _, J, q⟩ => exact ⟨_, _, J.ofTry okX, q⟩
    | .cont, ⟨_, _, J, q⟩ => exact ⟨_, _, J.ofTry okX, q⟩
    | .ret u, ⟨_, _, _, J, r, q⟩ => exact ⟨_, _, _, J.ofTry okX, r, q⟩
end
end KX
set_option Elab.async false
set_option linter.all false
set_option maxRecDepth 100000
set_option maxHeartbeats 4000000
/-! Own error classes: what a law needs of them. -/
namespace KX
open PySem PySem.Spec PyProof.Rows L2 GX KC Evl
/-- what the written part says of an own error class and its fields -/
structure ErrK (K : PySem.W.Frag) (C : Addr) (nm : Str) : Prop where
  oc : OexC K C
  ec : L2.ExcC K C
  nk : NamK K C nm
  f1 : PySem.W.findIn K (.ref C) "place" = some none
  f2 : PySem.W.findIn K (.ref C) "name" = some none
def flds (nm : Str) (i : Int) : List (Str × V) := [("name", .str nm), ("place", .int i)]
def spInit (K : PySem.W.Frag) : Sp := fun vs H Q _ => ∃ (a C : Addr) (i : Int) (nm : Str), vs = [.ref a, .int i] ∧ H a = some (exo a C none) ∧ ErrK K C nm ∧ i.natAbs < 2 ^ 100 ∧
  ∀ dx H2, H dx = none → dx ≠ a → H2 a = some (exo a C (some dx)) → H2 dx = some (exd dx (flds nm i)) → (∀ b, b ≠ a → b ≠ dx → H2 b = H b) → Q .non H2
theorem log_bd {n : Nat} (h : n < 2 ^ 100) : n.log2 < 1920 := by
  by_cases z : n = 0
  · subst z; decide
  · have := (Nat.log2_lt z).mpr h
    omega
theorem ofString_len (s : String) : (Str.ofString s).length = s.length := by
  rw [Str.ofString_eq_toList]
  show (s.toList.map Char.toNat).toArray.size = _
  rw [List.size_toArray, List.length_map, String.length_toList]
theorem text_fits {i : Int} (h : i.natAbs < 2 ^ 100) : (Str.empty ++ Str.ofString "at place " ++ Str.ofString (toString i)).length ≤ sizeLine := by
  have h1 := int_text_length_le (a := i) (k := 1920) (by decide) (log_bd h)
  have h2 := ofString_len (toString i)
  show (((#[] : Array Nat) ++ (Str.ofString "at place ").cps) ++ (Str.ofString (toString i)).cps).size ≤ _
  rw [Array.size_append, Array.size_append]
  have h3 : (Str.ofString (toString i)).cps.size = (toString i).length := h2
  have h4 : (Str.ofString "at place ").cps.size = 9 := by decide
  have h5 : 10000 ≤ sizeLine := by decide
  rw [h3, h4]
  show 0 + 9 + _ ≤ _
  omega
section
variable {P : Program} {w : World} {K : PySem.W.Frag} {mg : Str → Option Value} {base : Heap}
/-- an own error class of the text, its __init__ -/
structure ErrG (P : Program) (w : World) (K : PySem.W.Frag) (mg : Str → Option Value) (base : Heap) (nm : Str) (C fI : Addr) (fd : FuncData) : Prop where
  er : ErrK K C nm
  iC : PySem.W.findIn K (.ref C) "__init__" = some (some (.ref fI))
  tI : PySem.W.typeIn K (.ref fI) = some (.type "function")
  g : mg nm = some (.ref C)
  ok : FnOk P w K mg base CX0 1 fI fd ["self", "place"] (spInit K)
  bd : Binds K fd ["self", "place"] []
def ErrOut (C : Addr) (nm : Str) (i : Int) (H : Hp) (E : XK) : Prop := ∀ (d : Addr) H2, H d = none → Ex H H2 → H2 d = some (.xd (flds nm i)) → E (.ref C) (some d) H2
theorem s_mk {σ : L2.St} {H : Hp} {te : TE} {C : Addr} {nm : Str} {i : Int} {W : XK} (T : ErrK K C nm) (h : Ev te σ H (.int i)) (hi : i.natAbs < 2 ^ 100) (k : ErrOut C nm i H W) : tMkO C (spInit K) [] (tCons te tNil) σ H W :=
  h H (Ex.refl H) _ fun H1 e1 => ⟨by show 1 ≤ 1000; decide, fun a ha => ⟨a, C, i, nm, rfl, upd_same, T, hi, fun dx H2 hdx hne h1 h2 hr => by
    have hd1 : H1 dx = none := by rw [upd_ne hne] at hdx; exact hdx
    refine ⟨rfl, dx, _, h1, h2, hd1, k dx _ (fresh_back e1 hd1) (fun x o hx => ?_) upd_same⟩
    have hx1 := e1 x o hx
    have n1 : x ≠ a := fun z => by rw [z, ha] at hx1; cases hx1
    have n2 : x ≠ dx := fun z => by rw [z, hd1] at hx1; cases hx1
    rw [upd_ne n2, del_ne n1, hr x n1 n2, upd_ne n1]
    exact hx1⟩⟩
structure CalX (P : Program) (w : World) (K : PySem.W.Frag) (mg : Str → Option Value) (base : Heap) (nm : Str) (k : Nat) (ps : List Str) (sp : Sp) : Prop where
  out : ∃ f fd, mg nm = some (.ref f) ∧ PySem.W.keepIn K (.ref f) = true ∧ Binds K fd ps [] ∧ FnOk P w K mg base (L2.CX P w) k f fd ps sp
theorem pe_callX {X : Cx} {nm : Str} {k : Nat} {ps : List Str} {sp : Sp} {E : XK} {p pos : Pos} {e : Expr} {es : List Expr} {t : TA} (C : CalX X.prog X.w X.K X.mg X.base nm k ps sp) (hr : Room k X.A) (hg : Gl X nm) (hx : Passes (L2.CX X.prog X.w) X E) (ha : PA X (e :: es) t)
    (hdb : (nm == ("__debug__" : Str)) = false := by decide) (he : starEach (e :: es) X.env = (false, eval e X.env) :: starEach es X.env := by rfl) (hpl : (backTo pos (starEach es X.env)).any (·.1) = false := by rfl) :
    PE X (.Call (.Name nm p) (e :: es) [] pos) (tCall sp [] E t) := by
  obtain ⟨f, fd, h1, h2, h3, h4⟩ := C.out
  exact pe_call h4 hr hg h1 h2 h3 .nil hx ha hdb he hpl
end
end KX
set_option Elab.async false
set_option linter.all false
set_option maxRecDepth 100000
set_option maxHeartbeats 4000000
/-! Pairs (a key, a symbol) in a list, sorted. -/
namespace KC
open PySem PySem.Spec PyProof.Rows L2 StX GX Evl
def PrG (key : Nat → Int) (H : Hp) (ys : List V) (o : List Nat) : Prop := ys.length = o.length ∧ ∀ (j s : Nat), o[j]? = some s → ∃ t, ys[j]? = some (.ref t) ∧ H t = some (.tup [.int (key s), .int (s : Int)])
section
variable {key : Nat → Int} {H H' : Hp} {ys zs : List V} {o : List Nat}
theorem PrG.nil : PrG key H [] [] := ⟨rfl, fun j s h => by simp at h⟩
theorem PrG.ext (e : Ex H H') (h : PrG key H ys o) : PrG key H' ys o := ⟨h.1, fun j s hj => by
  obtain ⟨t, h1, h2⟩ := h.2 j s hj
  exact ⟨t, h1, e t _ h2⟩⟩
theorem PrG.put {p : Addr} {us ws : List V} (hp : H p = some (.lst us)) (h : PrG key H ys o) : PrG key (upd H p (.lst ws)) ys o := ⟨h.1, fun j s hj => by
  obtain ⟨t, h1, h2⟩ := h.2 j s hj
  exact ⟨t, h1, by rw [upd_ne (fun z => by rw [z, hp] at h2; cases h2)]; exact h2⟩⟩
theorem PrG.add {t : Addr} {s : Nat} (h : PrG key H ys o) (ht : H t = some (.tup [.int (key s), .int (s : Int)])) : PrG key H (ys ++ [.ref t]) (o ++ [s]) := by
  refine ⟨by rw [List.length_append, List.length_append, h.1] <;> rfl, fun j u hj => ?_⟩
  by_cases e : j < o.length
  · rw [List.getElem?_append_left e] at hj
    obtain ⟨w, h1, h2⟩ := h.2 j u hj
    exact ⟨w, by rw [List.getElem?_append_left (by rw [h.1]; exact e)]; exact h1, h2⟩
  · rw [List.getElem?_append_right (by omega)] at hj
    have hj0 : j - o.length = 0 := by
      have := (List.getElem?_eq_some_iff.mp hj).1
      simp at this
      omega
    rw [hj0] at hj
    have hu : s = u := by simpa using hj
    subst hu
    exact ⟨t, by rw [List.getElem?_append_right (by rw [h.1]; omega), h.1, hj0]; rfl, ht⟩
def keyOf (H : Hp) : V → Int × Int
  | .ref t => match H t with
    | some (.tup [.int a, .int b]) => (a, b)
    | _ => (0, 0)
  | _ => (0, 0)
theorem keyOf_tup {t : Addr} {a b : Int} (h : H t = some (.tup [.int a, .int b])) : keyOf H (.ref t) = (a, b) := by
  show (match H t with | some (.tup [.int a, .int b]) => (a, b) | _ => ((0 : Int), (0 : Int))) = _
  rw [h]
def symOf (H : Hp) (z : V) : Nat := (keyOf H z).2.toNat
theorem PrG.mem (h : PrG key H ys o) {z : V} (hz : z ∈ ys) : ∃ s t, s ∈ o ∧ z = .ref t ∧ H t = some (.tup [.int (key s), .int (s : Int)]) ∧ symOf H z = s := by
  obtain ⟨j, hj⟩ := List.mem_iff_getElem?.mp hz
  have hjl : j < o.length := by rw [← h.1]; exact (List.getElem?_eq_some_iff.mp hj).1
  obtain ⟨t, h1, h2⟩ := h.2 j _ (List.getElem?_eq_getElem hjl)
  rw [hj] at h1
  have e := Option.some.inj h1
  subst e
  exact ⟨_, t, List.getElem_mem hjl, rfl, h2, by unfold symOf; rw [keyOf_tup h2]; simp⟩
theorem PrG.syms (h : PrG key H ys o) : ys.map (symOf H) = o := by
  refine List.ext_getElem? fun j => ?_
  rw [List.getElem?_map]
  by_cases hj : j < o.length
  · obtain ⟨t, h1, h2⟩ := h.2 j _ (List.getElem?_eq_getElem hj)
    rw [h1, List.getElem?_eq_getElem hj]
    show some (symOf H (.ref t)) = _
    unfold symOf
    rw [keyOf_tup h2]
    simp
  · rw [List.getElem?_eq_none (by rw [h.1]; omega), List.getElem?_eq_none (by omega)]
    rfl
theorem PrG.sorted (h : PrG key H ys o) (hp : zs.Perm ys) (hs : SrtO.Srtd (ltP (keyOf H)) zs) (hn : o.Nodup) :
    PrG key H zs (zs.map (symOf H)) ∧ (zs.map (symOf H)).Perm o ∧ (zs.map (symOf H)).Pairwise fun a b => key a < key b ∨ (key a = key b ∧ a < b) := by
  have hperm : (zs.map (symOf H)).Perm o := by
    have := hp.map (symOf H)
    rwa [h.syms] at this
  refine ⟨⟨(List.length_map _).symm, fun j s hj => ?_⟩, hperm, ?_⟩
  · rw [List.getElem?_map] at hj
    cases hz : zs[j]? with
    | none => rw [hz] at hj; cases hj
    | some z =>
      rw [hz] at hj
      obtain ⟨s1, t, _, rfl, ht, es⟩ := h.mem (hp.mem_iff.mp (List.mem_of_getElem? hz))
      have e2 : s1 = s := by rw [← es]; exact Option.some.inj hj
      subst e2
      exact ⟨t, rfl, ht⟩
  · have hnd : (zs.map (symOf H)).Nodup := hperm.nodup_iff.mpr hn
    have hnd2 : zs.Pairwise fun a b => symOf H a ≠ symOf H b := List.pairwise_map.mp hnd
    refine List.pairwise_map.mpr ?_
    refine List.Pairwise.imp_of_mem (fun {a b} ha hb hab => ?_) (hs.and hnd2)
    obtain ⟨s1, t1, _, rfl, ht1, es1⟩ := h.mem (hp.mem_iff.mp ha)
    obtain ⟨s2, t2, _, rfl, ht2, es2⟩ := h.mem (hp.mem_iff.mp hb)
    obtain ⟨h4, h5⟩ := hab
    have h6 := SrtO.lexB_no.mp h4
    rw [keyOf_tup ht1, keyOf_tup ht2] at h6
    rw [es1, es2] at h5 ⊢
    simp only at h6
    omega
end
section
variable {K : PySem.W.Frag} {σ : L2.St} {H H' : Hp} {ta tb te : TE} {D : Ends} {tz : TS}
/-- sorted((key, symbol) for symbol, w in enumerate(xs) if ..): what comes of it -/
theorem tSort_use {ys : List V} {key : Nat → Int} {o : List Nat} {H1 : Hp} {R : Addr → Hp → Prop} (h : PrG key H1 ys o) (hn : o.Nodup) (q : ∀ p zs o', H1 p = none → PrG key (upd H1 p (.lst zs)) zs o' → o'.Perm o → (o'.Pairwise fun a b => key a < key b ∨ (key a = key b ∧ a < b)) → R p (upd H1 p (.lst zs))) :
    ∀ p, H1 p = none → rSortPO (.ref p) [] (upd H1 p (.lst ys)) fun _ H2 => R p H2 := fun p hp => by
  have e1 : Ex H1 (upd H1 p (.lst ys)) := Ex.new hp
  refine ⟨p, ys, keyOf H1, rfl, rfl, upd_same, fun y hy => ?_, fun zs hsr hst => ?_⟩
  · obtain ⟨s, t, _, rfl, ht, _⟩ := h.mem hy
    refine ⟨t, rfl, ?_⟩
    rw [keyOf_tup ht]
    exact e1 t _ ht
  · have hov : upd (upd H1 p (.lst ys)) p (.lst zs) = upd H1 p (.lst zs) := by
      funext b
      by_cases e : b = p
      · rw [e, upd_same, upd_same]
      · rw [upd_ne e, upd_ne e, upd_ne e]
    rw [hov]
    obtain ⟨h1, h2, h3⟩ := h.sorted hst.perm hsr hn
    exact q p zs _ hp (h1.ext (Ex.new hp)) h2 h3
/-- xs[i] = a new list -/
theorem s_setLL {l : Addr} {xs ys : List V} {j : Nat} (hl : H l = some (.lst xs)) (h : EvL te σ H ys) (ho : Ev ta σ H (.ref l)) (hi : Ev tb σ H (.int (j : Int))) (hj : j < xs.length) (k : ∀ p H1, H p = none → Ex H H1 → H1 p = some (.lst ys) → D.nx σ (upd H1 l (.lst (xs.set j (.ref p))))) :
    tAsg te (gSub ta tb rSetL) D σ H := h H (Ex.refl H) _ fun p H1 hp e1 h1 => ho H1 e1 _ fun H2 e2 => hi H2 (e1.trans e2) _ fun H3 e3 =>
  ⟨l, xs, (j : Int), j, rfl, rfl, ((e1.trans e2).trans e3) l _ hl, ixN_nat hj, k p H3 hp ((e1.trans e2).trans e3) ((e2.trans e3) p _ h1)⟩
theorem q_setLL {l : Addr} {xs ys : List V} {j : Nat} (hl : H l = some (.lst xs)) (h : EvL te σ H ys) (ho : Ev ta σ H (.ref l)) (hi : Ev tb σ H (.int (j : Int))) (hj : j < xs.length) (k : ∀ p H1, H p = none → Ex H H1 → H1 p = some (.lst ys) → tz D σ (upd H1 l (.lst (xs.set j (.ref p))))) :
    tSeq (tAsg te (gSub ta tb rSetL)) tz D σ H := s_setLL (D := { D with nx := tz D }) hl h ho hi hj k
theorem flat_rep (n : Nat) (v : V) : (List.replicate n [v]).flatten = List.replicate n v := by
  induction n with
  | zero => rfl
  | succ n ih => rw [List.replicate_succ, List.replicate_succ, List.flatten_cons, ih] <;> rfl
end
end KC
set_option Elab.async false
set_option linter.all false
set_option maxRecDepth 100000
set_option maxHeartbeats 4000000
/-! Pairs, calls that may raise, isinstance, a, b = x, y. -/
namespace KQ
open PySem PySem.Spec PyProof.Rows L2 StX GX KC Evl KX
structure Bs2 (mg : Str → Option Value) : Prop where
  str : mg "str" = none
  tuple : mg "tuple" = none
  all : mg "all" = none
/-! ### a, b = x, y with plain local names -/
def tPar2 (i j : Nat) (ta : TA) : TS := fun D σ H => ta σ H fun vs H1 => ∃ u v, vs = [u, v] ∧ D.nx ((σ.set i (some u)).set j (some v)) H1
section
variable {X : Cx}
theorem ps_par2 {i j : Nat} {x y : Str} {a b : Expr} {ta : TA} {px py pt pos : Pos} {kt k2 pt2} (hc : X.calm = true) (hN : X.N.Nodup) (hi : X.N[i]? = some x) (hj : X.N[j]? = some y) (hij : i ≠ j)
    (hx : X.env.scope.names.lookup x = some .local) (hy : X.env.scope.names.lookup y = some .local) (ha : PA X [a, b] ta)
    (hw : swappedStores [.Tuple [.Name x px, .Name y py] kt pt] (.Tuple [a, b] k2 pt2) X.env = pure (some [x, y])) (hs : swapsWithSole [.Tuple [.Name x px, .Name y py] kt pt] (.Tuple [a, b] k2 pt2) pos.line X.env = pure false := by rfl) :
    PS X (.Assign [.Tuple [.Name x px, .Name y py] kt pt] (.Tuple [a, b] k2 pt2) pos) (tPar2 i j ta) := by
  refine ⟨fun pins s σ H D I h => ?_⟩
  refine (exec_Assign_arm .. ▸ wpAny_bind (wpAny_standAt ?_) : _)
  refine hs ▸ wpAny_bind (wpAny_pure ?_)
  refine (if_neg (show ¬ false = true by decide)).symm ▸ ?_
  refine wpAny_bind (Tuple_ (thn (ha.run _ pins s σ H _ I h) fun us s1 w0 => ?_))
  obtain ⟨vs, H1, I1, r1, v1, v2, e1, q1⟩ := w0
  subst e1
  obtain ⟨u1, u2, rfl, ra, rb⟩ := vals2 r1
  refine wpAny_newObj_type ?_ (by show 2 ≤ sizeLine; decide)
  have I2 : Inv X pins σ H1 { s1 with heap := s1.heap.push { cls := .type "tuple", data := .seq [u1, u2].toArray } } := I1.kept (t' := s1.toks) fun b o e => Heap.get?_push_of_some _ e
  refine hw ▸ wpAny_bind (wpAny_pure ?_)
  show wpAny (model X.prog X.w) X.A (rule "assign.swapped-stores" >>= fun _ => unpackItems (.ref s1.heap.objs.size) 2 none >>= fun its => assignInOrder [fun v => bindName X.env y v, fun v => bindName X.env x v] its.reverse >>= fun _ => pure Flow.next) _ _ _
  refine wpAny_bind (wpAny_rule (wpAny_bind (unpackItems_tuple (items := #[u1, u2]) (I.ok.hd hc) (IsTup.new s1.heap _) fun hp hx2 => ?_)))
  have I3 := I2.kept (h' := hp) (t' := s1.toks) fun b o e => hx2 b o (Nat.ne_of_lt (Heap.lt_size e)) e
  show wpAny _ _ (assignInOrder [fun v => bindName X.env y v, fun v => bindName X.env x v] [u2, u1] >>= fun _ => pure Flow.next) _ _ _
  refine wpAny_bind (assignInOrder_cons (wpAny_bindName (store_ok I3 hN hj (.inl hy) rb (fun s2 I4 => ?_) (.inr hy))))
  refine assignInOrder_cons (wpAny_bindName (store_ok I4 hN hi (.inl hx) ra (fun s3 I5 => assignInOrder_nil (wpAny_pure ?_)) (.inr hx)))
  rw [List.set_comm _ _ (Ne.symm hij)] at I5
  exact ⟨_, H1, I5, q1⟩
end
/-! ### calls that may raise -/
theorem ErrOut.mono {C : Addr} {nm : Str} {i : Int} {H H' : Hp} {E : XK} (e : Ex H H') (h : ErrOut C nm i H E) : ErrOut C nm i H' E := fun d H2 hd e2 h2 => h d H2 (fresh_back e hd) (e.trans e2) h2
/-- a new tuple -/
def RetT (xs : List V) (H : Hp) (Q : VK) : Prop := ∀ p H2, H p = none → Ex H H2 → H2 p = some (.tup xs) → Q (.ref p) H2
theorem RetT.mono {xs : List V} {H H' : Hp} {Q : VK} (e : Ex H H') (h : RetT xs H Q) : RetT xs H' Q := fun p H2 hp e2 h2 => h p H2 (fresh_back e hp) (e.trans e2) h2
section
variable {K : PySem.W.Frag} {σ : L2.St} {H H' : Hp} {ta tb tc te tx tl : TE} {D : Ends} {tz : TS} {x y z v : V} {t u : TT}
theorem q_par2 {i j : Nat} {ta : TA} (h : EvA ta σ H [x, y]) (k : ∀ H1, Ex H H1 → tz D ((σ.set i (some x)).set j (some y)) H1) : tSeq (tPar2 i j ta) tz D σ H := h H (Ex.refl H) _ fun H1 e1 => ⟨_, _, rfl, k H1 e1⟩
theorem s_par2 {i j : Nat} {ta : TA} (h : EvA ta σ H [x, y]) (k : ∀ H1, Ex H H1 → D.nx ((σ.set i (some x)).set j (some y)) H1) : tPar2 i j ta D σ H := h H (Ex.refl H) _ fun H1 e1 => ⟨_, _, rfl, k H1 e1⟩
theorem q_asg2 {i j : Nat} {ta : TA} (h : EvA ta σ H [x, y]) (k : ∀ H1, Ex H H1 → tz D ((σ.set i (some x)).set j (some y)) H1) : tSeq (tAsg (tTup ta) (gTup K 2 (gCons (gName i) (gCons (gName j) gNil)))) tz D σ H :=
  h H (Ex.refl H) _ fun H1 e1 => ⟨by show 2 ≤ sizeLine; decide, fun p hp => ⟨p, _, rfl, .inl (.inl upd_same), rfl, _, _, rfl, _, _, rfl, rfl, k _ (e1.trans (Ex.new hp))⟩⟩
theorem g_two {i j : Nat} {p : Addr} {Q : L2.St → Hp → Prop} (hp : SqT K H p [x, y]) (k : Q ((σ.set i (some x)).set j (some y)) H) : gTup K 2 (gCons (gName i) (gCons (gName j) gNil)) (.ref p) σ H Q := ⟨p, _, rfl, hp, rfl, _, _, rfl, _, _, rfl, rfl, k⟩
theorem g_three {i j l : Nat} {p : Addr} {Q : L2.St → Hp → Prop} (hp : SqT K H p [x, y, z]) (k : Q (((σ.set i (some x)).set j (some y)).set l (some z)) H) : gTup K 3 (gCons (gName i) (gCons (gName j) (gCons (gName l) gNil))) (.ref p) σ H Q := ⟨p, _, rfl, hp, rfl, _, _, rfl, _, _, rfl, _, _, rfl, rfl, k⟩
theorem q_unp2 {i j : Nat} {p : Addr} (h : Ev te σ H (.ref p)) (hp : SqT K H p [x, y]) (k : ∀ H1, Ex H H1 → tz D ((σ.set i (some x)).set j (some y)) H1) : tSeq (tAsg te (gTup K 2 (gCons (gName i) (gCons (gName j) gNil)))) tz D σ H :=
  h H (Ex.refl H) _ fun H1 e1 => g_two (ex_t e1 hp) (k H1 e1)
theorem q_unp3' {i j l : Nat} {p : Addr} (h : Ev te σ H (.ref p)) (hp : SqT K H p [x, y, z]) (k : ∀ H1, Ex H H1 → tz D (((σ.set i (some x)).set j (some y)).set l (some z)) H1) : tSeq (tAsg te (gTup K 3 (gCons (gName i) (gCons (gName j) (gCons (gName l) gNil))))) tz D σ H :=
  h H (Ex.refl H) _ fun H1 e1 => g_three (ex_t e1 hp) (k H1 e1)
/-- a, b = f(..) -/
theorem q_unpX {sp : Sp} {E : XK} {vs : List V} {ta : TA} {g : TG} (h : EvA ta σ H vs) (k : ∀ H1, Ex H H1 → sp (vs ++ []) H1 (fun v H2 => g v σ H2 fun σ' H' => tz D σ' H') E) : tSeq (tAsg (tCall sp [] E ta) g) tz D σ H := h H (Ex.refl H) _ fun H1 e1 => k H1 e1
theorem s_unpX {sp : Sp} {E : XK} {vs : List V} {ta : TA} {g : TG} (h : EvA ta σ H vs) (k : ∀ H1, Ex H H1 → sp (vs ++ []) H1 (fun v H2 => g v σ H2 fun σ' H' => D.nx σ' H') E) : tAsg (tCall sp [] E ta) g D σ H := h H (Ex.refl H) _ fun H1 e1 => k H1 e1
theorem s_retX {sp : Sp} {E : XK} {vs : List V} {ta : TA} (h : EvA ta σ H vs) (k : ∀ H1, Ex H H1 → sp (vs ++ []) H1 D.rt E) : tRet (tCall sp [] E ta) D σ H := h H (Ex.refl H) _ fun H1 e1 => k H1 e1
/-- return xs, y with a new list -/
theorem s_retLT {xs : List V} (h : EvL ta σ H xs) (h2 : ∀ H1, Ex H H1 → Ev tb σ H1 y) (k : ∀ b p H2, H b = none → H p = none → Ex H H2 → H2 b = some (.lst xs) → H2 p = some (.tup [.ref b, y]) → D.rt (.ref p) H2) : tRet (tTup (tCons ta (tCons tb tNil))) D σ H :=
  h H (Ex.refl H) _ fun b H1 nb e1 h1 => h2 H1 e1 H1 (Ex.refl H1) _ fun H2 e2 => ⟨by show 2 ≤ sizeLine; decide, fun p hp => k b p _ nb (fresh_back (e1.trans e2) hp) ((e1.trans e2).trans (Ex.new hp)) ((e2.trans (Ex.new hp)) b _ h1) upd_same⟩
/-- return x, ys with a new list -/
theorem s_retTL {xs : List V} (h : Ev ta σ H x) (h2 : ∀ H1, Ex H H1 → EvL tb σ H1 xs) (k : ∀ b p H2, H b = none → H p = none → Ex H H2 → H2 b = some (.lst xs) → H2 p = some (.tup [x, .ref b]) → D.rt (.ref p) H2) : tRet (tTup (tCons ta (tCons tb tNil))) D σ H :=
  h H (Ex.refl H) _ fun H1 e1 => h2 H1 e1 H1 (Ex.refl H1) _ fun b H2 nb e2 hb => ⟨by show 2 ≤ sizeLine; decide, fun p hp => k b p _ (fresh_back e1 nb) (fresh_back (e1.trans e2) hp) ((e1.trans e2).trans (Ex.new hp)) ((Ex.new hp) b _ hb) upd_same⟩
/-- return x, y -/
theorem s_ret2 (h : Ev ta σ H x) (h2 : Ev tb σ H y) (k : RetT [x, y] H D.rt) : tRet (tTup (tCons ta (tCons tb tNil))) D σ H := s_retU (eu_tup (ea2 h h2) (by show 2 ≤ 100000; decide)) k
theorem s_ret3 (h : Ev ta σ H x) (h2 : Ev tb σ H y) (h3 : Ev tc σ H z) (k : RetT [x, y, z] H D.rt) : tRet (tTup (tCons ta (tCons tb (tCons tc tNil)))) D σ H := s_retU (eu_tup (ea3 h h2 h3) (by show 3 ≤ 100000; decide)) k
theorem ep_call {sp : Sp} {dvs vs : List V} {E : XK} {ta : TA} {R : V → Hp → Prop} (h : EvA ta σ H vs) (hs : ∀ H1, Ex H H1 → ∀ Q : VK, (∀ v H2, Ex H1 H2 → R v H2 → Q v H2) → sp (vs ++ dvs) H1 Q E) : EvP (tCall sp dvs E ta) σ H R := fun H1 e Q q =>
  h H1 e _ fun H2 e2 => hs H2 (e.trans e2) Q fun v H3 e3 r => q v H3 (e2.trans e3) r
theorem el_cat3 {xs ys : List V} {a : Addr} (ha : Ev ta σ H (.ref a)) (h0 : H a = some (.lst xs)) (hb : EvL tb σ H ys) (hz : xs.length + ys.length ≤ 100000) : EvL (tOp rCat ta tb) σ H (xs ++ ys) := fun H1 e Q q =>
  ha H1 e _ fun H2 e2 => hb H2 (e.trans e2) _ fun p H3 np e3 hp => ⟨a, p, xs, ys, rfl, rfl, ((e.trans e2).trans e3) a _ h0, hp, sz_of hz, fun p2 hp2 => q p2 _ (fresh_back (e2.trans e3) hp2) ((e2.trans e3).trans (Ex.new hp2)) upd_same⟩
theorem el_catLL {xs ys : List V} (ha : EvL ta σ H xs) (hb : EvL tb σ H ys) (hz : xs.length + ys.length ≤ 100000) : EvL (tOp rCat ta tb) σ H (xs ++ ys) := fun H1 e Q q =>
  ha H1 e _ fun a H2 na e2 h2 => hb H2 (e.trans e2) _ fun p H3 np e3 hp => ⟨a, p, xs, ys, rfl, rfl, e3 a _ h2, hp, sz_of hz, fun p2 hp2 => q p2 _ (fresh_back (e2.trans e3) hp2) ((e2.trans e3).trans (Ex.new hp2)) upd_same⟩
/-- isinstance(x, C) of a value that is at hand -/
theorem ev_isi {c : String} {t : Value} {b : Bool} (h : Ev ta σ H x) (ty : ∀ H1, Ex H H1 → TyX K H1 x t) (hk : PySem.W.kitOne K t (.type c) = some b) : Ev (tCB (rIsi K) (tCons ta (tCons (tC (.ty c)) tNil))) σ H (.bl b) := fun H1 e Q q =>
  h H1 e _ fun H2 e2 => ⟨x, .ty c, t, .type c, b, rfl, .ty c, ty H2 (e.trans e2), hk, q H2 e2⟩
theorem EvP.of_ev (h : Ev te σ H v) : EvP te σ H fun w _ => w = v := fun H1 e Q q => h H1 e Q fun H2 e2 => q _ H2 e2 rfl
theorem dpAll_at {ds : List PyData} {vs : List V} (h : DpAll K H vs ds) {j : Nat} {d : PyData} (hj : ds[j]? = some d) : ∃ v, vs[j]? = some v ∧ Dp K H v d := by
  induction ds generalizing vs j with
  | nil => simp at hj
  | cons d0 r ih =>
    cases h with
    | cons a b =>
      cases j with
      | zero =>
        have : d0 = d := by simpa using hj
        subst this
        exact ⟨_, rfl, a⟩
      | succ j =>
        obtain ⟨v, h1, h2⟩ := ih b (j := j) (by simpa using hj)
        exact ⟨v, by simpa using h1, h2⟩
/-- [a, b, ..][j], data -/
theorem ed_ixNew {ta : TA} {ds : List PyData} {d : PyData} {j : Nat} {i : Int} (h : EvDA K ta σ H ds) (hl : ds.length ≤ 100000) (hb : Ev tb σ H (.int i)) (ei : i = (j : Int)) (hj : ds[j]? = some d) : EvD K (tOp (rIxL K) (tLst ta) tb) σ H d := fun H1 e Q q =>
  h H1 e _ fun vs H2 e2 hvs => ⟨sz_of (by rw [DpAll.len hvs]; exact hl), fun p hp => hb _ ((e.trans e2).trans (Ex.new hp)) _ fun H3 e3 => by
    obtain ⟨v, h1, h2⟩ := dpAll_at hvs hj
    exact ⟨p, vs, i, v, rfl, rfl, sq_of (e3 p _ upd_same), at_of ei h1, q v H3 ((e2.trans (Ex.new hp)).trans e3) (Dp.ext ((Ex.new hp).trans e3) _ _ h2)⟩⟩
end
section
variable {K : PySem.W.Frag} {σ : L2.St} {H H' : Hp} {ta tb tc te tx tl : TE} {D : Ends} {tu tz : TS} {g : TG} {x y z v : V}
/-- for .. in reversed(f(..)): over a list that is made -/
theorem s_forRevP {C : Addr → List V → Hp → Prop} (h : EvP te σ H fun v H1 => ∃ p xs, v = .ref p ∧ H1 p = some (.lst xs) ∧ C p xs H1) (Pv : Addr → List V → Nat → L2.St → Hp → Prop) (h0 : ∀ p xs H1, Ex H H1 → H1 p = some (.lst xs) → C p xs H1 → Pv p xs 0 σ H1) (hl : ∀ p xs i σ' H', i ≤ xs.length → Pv p xs i σ' H' → SqL K H' p xs)
    (hs : ∀ p xs i x σ' H', xs[xs.length - 1 - i]? = some x → i < xs.length → Pv p xs i σ' H' → g x σ' H' fun σ2 H2 => tu { D with nx := Pv p xs (i + 1), ct := Pv p xs (i + 1), bk := D.nx } σ2 H2) (hd : ∀ p xs σ' H', Pv p xs xs.length σ' H' → D.nx σ' H') : tFor (iRev K (tCons te tNil)) g tu D σ H := by
  refine h H (Ex.refl H) _ fun v H1 e1 hv => ?_
  obtain ⟨p, xs, rfl, h1, hc⟩ := hv
  refine ⟨p, xs, rfl, sq_of h1, fun i m σ H => m = xs.length - i ∧ i ≤ xs.length ∧ Pv p xs i σ H, ⟨xs.length, by simp, Nat.zero_le _, h0 p xs H1 e1 h1 hc⟩, ?_⟩
  rintro i m σ H ⟨rfl, hi, pv⟩
  have q := hl p xs i σ H hi pv
  by_cases hlt : i < xs.length
  · have hx : xs[xs.length - 1 - i]? = some (xs[xs.length - 1 - i]'(by omega)) := List.getElem?_eq_getElem (by omega)
    refine .inr ⟨⟨hlt, xs, _, q, hx⟩, Pv p xs (i + 1), fun σ' H' p' => ⟨xs.length - (i + 1), by omega, rfl, hlt, p'⟩, fun x H' y => ?_⟩
    obtain ⟨rfl, hy⟩ := y
    exact hs p xs i x σ _ (hy xs q) hlt pv
  · have : i = xs.length := by omega
    subst this
    exact .inl ⟨Nat.le_refl _, hd p xs σ H pv⟩
theorem q_forRevP {C : Addr → List V → Hp → Prop} (h : EvP te σ H fun v H1 => ∃ p xs, v = .ref p ∧ H1 p = some (.lst xs) ∧ C p xs H1) (Pv : Addr → List V → Nat → L2.St → Hp → Prop) (h0 : ∀ p xs H1, Ex H H1 → H1 p = some (.lst xs) → C p xs H1 → Pv p xs 0 σ H1) (hl : ∀ p xs i σ' H', i ≤ xs.length → Pv p xs i σ' H' → SqL K H' p xs)
    (hs : ∀ p xs i x σ' H', xs[xs.length - 1 - i]? = some x → i < xs.length → Pv p xs i σ' H' → g x σ' H' fun σ2 H2 => tu { D with nx := Pv p xs (i + 1), ct := Pv p xs (i + 1), bk := tz D } σ2 H2) (hd : ∀ p xs σ' H', Pv p xs xs.length σ' H' → tz D σ' H') : tSeq (tFor (iRev K (tCons te tNil)) g tu) tz D σ H :=
  s_forRevP (D := { D with nx := tz D }) h Pv h0 hl hs hd
theorem q_forRevN {xs : List V} (h : EvL te σ H xs) (Pv : Addr → Nat → L2.St → Hp → Prop) (h0 : ∀ p H1, H p = none → Ex H H1 → H1 p = some (.lst xs) → Pv p 0 σ H1) (hl : ∀ p i σ' H', i ≤ xs.length → Pv p i σ' H' → SqL K H' p xs)
    (hs : ∀ p i x σ' H', xs[xs.length - 1 - i]? = some x → i < xs.length → Pv p i σ' H' → g x σ' H' fun σ2 H2 => tu { D with nx := Pv p (i + 1), ct := Pv p (i + 1), bk := tz D } σ2 H2) (hd : ∀ p σ' H', Pv p xs.length σ' H' → tz D σ' H') : tSeq (tFor (iRev K (tCons te tNil)) g tu) tz D σ H :=
  q_forRevP (C := fun p ys H1 => ys = xs ∧ H p = none ∧ H1 p = some (.lst xs)) (fun H1 e Q q => h H1 e Q fun p H2 np e2 h2 => q _ H2 e2 ⟨p, xs, rfl, h2, rfl, fresh_back e np, h2⟩) (fun p ys i σ' H' => ys = xs ∧ Pv p i σ' H') (fun p ys H1 e1 h1 ⟨a, b, c⟩ => ⟨a, h0 p H1 b e1 c⟩) (fun p ys i σ' H' hi ⟨a, b⟩ => by subst a; exact hl p i σ' H' hi b)
    (fun p ys i x σ' H' hx hi ⟨a, b⟩ => by
      subst a
      have key : ∀ σ2 H2, (fun σ H => Pv p (i + 1) σ H) σ2 H2 ↔ (ys = ys ∧ Pv p (i + 1) σ2 H2) := fun σ2 H2 => ⟨fun z => ⟨rfl, z⟩, fun z => z.2⟩
      have e : (fun σ2 H2 => ys = ys ∧ Pv p (i + 1) σ2 H2) = Pv p (i + 1) := by
        funext σ2 H2
        exact propext (key σ2 H2).symm
      rw [e]
      exact hs p i x σ' H' hx hi b) (fun p ys σ' H' ⟨a, b⟩ => by subst a; exact hd p σ' H' b)
/-- xs[i:j] of a new list -/
theorem el_slN {tl th : TO} {xs : List V} {lo hi : Option Int} (h : EvL te σ H xs) (h1 : ∀ H1, Ex H H1 → EvO tl σ H1 lo) (h2 : ∀ H1, Ex H H1 → EvO th σ H1 hi) : EvL (tSl (rSlL K) te tl th) σ H (cutV xs lo hi) := fun H1 e Q q =>
  h H1 e _ fun a H2 na e2 ha => h1 H2 (e.trans e2) H2 (Ex.refl _) _ fun H3 e3 => h2 H3 ((e.trans e2).trans e3) H3 (Ex.refl _) _ fun H4 e4 =>
    ⟨a, xs, rfl, sq_of ((e3.trans e4) a _ ha), fun p hp => q p _ (fresh_back ((e2.trans e3).trans e4) hp) (((e2.trans e3).trans e4).trans (Ex.new hp)) upd_same⟩
theorem cutV_from (xs : List V) (n : Nat) : cutV xs (some (n : Int)) none = xs.drop n := by
  unfold cutV
  rw [HT.sIx_none, HT.sIx_nat]
  by_cases h : n ≤ xs.length
  · rw [Nat.min_eq_left h, List.take_of_length_le (by rw [List.length_drop]; omega)]
  · rw [Nat.min_eq_right (by omega), List.drop_eq_nil_of_le (Nat.le_refl _), List.drop_eq_nil_of_le (by omega), List.take_nil]
theorem ev_bits {i : Int} (h : Ev te σ H (.int i)) : Ev (tBits te) σ H (.int (Builtin.Int.intBits i : Nat)) := fun H1 e Q q => h H1 e _ fun H2 e2 => ⟨i, rfl, q H2 e2⟩
/-- [e for j in range(a, b, -1)] -/
theorem el_lcDown {ta : TA} {te : TE} {j : Nat} {vs : List Nat} {a b : Int} {n : Nat} (v : Nat → V) (h : EvA ta σ H [.int a, .int b, .int (-1)]) (hn : (a - b).toNat = n) (ha : -100000 ≤ a ∧ a ≤ 100000) (hb : -100000 ≤ b ∧ b ≤ 100000) (hn2 : n ≤ 40000)
    (hw : ∀ x, wipe ((wipe σ vs).set j (some x)) vs = wipe σ vs) (he : ∀ (i : Nat) H1, Ex H H1 → i < n → Ev te ((wipe σ vs).set j (some (.int (a + (i : Nat) * (-1))))) H1 (v i)) : EvL (tLc (iRng3 ta) (gName j) tYes te vs) σ H ((List.range n).map v) := fun H1 e Q q =>
  h H1 e _ fun H2 e2 => ⟨a, b, -1, n, rfl, by rw [← hn]; exact RgC.neg (by omega) (by omega) (by omega) (by omega), fun Dl hD =>
    ⟨fun i m H' => m + i = n ∧ H2 Dl = none ∧ Ex H2 H' ∧ H' Dl = some (.lst ((List.range i).map v)), ⟨n, by omega, hD, Ex.new hD, upd_same⟩, fun i m H' hW => by
      obtain ⟨hm, hD2, e3, hl⟩ := hW
      by_cases hi : i < n
      · right
        refine ⟨hi, fun H' => (m - 1) + (i + 1) = n ∧ H2 Dl = none ∧ Ex H2 H' ∧ H' Dl = some (.lst ((List.range (i + 1)).map v)), fun H' q => ⟨m - 1, by omega, q⟩, ?_⟩
        rintro x H5 ⟨rfl, rfl⟩
        refine ⟨hw _, tt_yes ?_⟩
        refine he i _ ((e.trans e2).trans e3) hi _ (Ex.refl _) _ fun H6 e6 => ?_
        refine ⟨_, e6 Dl _ hl, sz_lt (by rw [List.length_map, List.length_range]; omega), by omega, hD2, Ex.mut (e3.trans e6) hD2, ?_⟩
        rw [upd_same, List.range_succ, List.map_append]
        rfl
      · left
        have hin : i = n := by omega
        subst hin
        exact ⟨Nat.le_refl _, q Dl H' (fresh_back e2 hD2) (e2.trans e3) hl⟩⟩⟩
theorem p2_abs (m : Nat) : ((2 : Int) ^ m).natAbs < 2 ^ (m + 1) := by
  rw [Int.natAbs_pow]
  exact Nat.pow_lt_pow_right (by decide) (Nat.lt_succ_self m)
theorem rv_divP {i : Int} {m : Nat} (h : m ≤ 8000) : RV (rI CDivW fun i j => .int (i / j)) (.int i) (.int (2 ^ m)) H (.int (i / 2 ^ m)) := rv_I (wide_div (b := m + 1) (Int.pow_pos (by decide)) (p2_abs m) (by omega) (by omega))
/-- 1 << m -/
theorem ev_shl1 {z : Int} {m : Nat} (h : Ev te σ H (.int z)) (e : z = (m : Int)) (hm : m ≤ 1000000) : Ev (tOp (rI CPow fun i j => .int (i * 2 ^ j.toNat)) (tC (.int 1)) te) σ H (.int (2 ^ m)) := by
  subst e
  refine ev_is (ev_op (ev_c (v := .int 1)) h (rv_shl ⟨by omega, by omega, by decide⟩)) ?_
  rw [Int.toNat_natCast, Int.one_mul]
/-- a list of lists of ints -/
def LL (H : Hp) (p : Addr) (cs : List (List Int)) : Prop := ∃ rs : List Addr, H p = some (.lst (rs.map V.ref)) ∧ rs.length = cs.length ∧ ∀ (j : Nat) (r : Addr) (c : List Int), rs[j]? = some r → cs[j]? = some c → H r = some (.lst (c.map V.int))
theorem LL.ext {p : Addr} {cs : List (List Int)} (e : Ex H H') (h : LL H p cs) : LL H' p cs := by
  obtain ⟨rs, h1, h2, h3⟩ := h
  exact ⟨rs, e _ _ h1, h2, fun j r c a b => e _ _ (h3 j r c a b)⟩
theorem LL.at_ {p : Addr} {cs : List (List Int)} (h : LL H p cs) {j : Nat} {c : List Int} (hc : cs[j]? = some c) : ∃ r, H r = some (.lst (c.map V.int)) ∧ ∀ {te ti : TE} {σ : L2.St} {H' : Hp} {i : Int}, Ex H H' → Ev te σ H' (.ref p) → Ev ti σ H' (.int i) → i = (j : Int) → Ev (tOp (rIxL K) te ti) σ H' (.ref r) := by
  obtain ⟨rs, h1, h2, h3⟩ := h
  obtain ⟨r, hr⟩ : ∃ r, rs[j]? = some r := ⟨_, List.getElem?_eq_getElem (by rw [h2]; exact (List.getElem?_eq_some_iff.mp hc).1)⟩
  refine ⟨r, h3 j r c hr hc, fun e a b ei => ev_op a b (rv_ixL (sq_of (e _ _ h1)) (at_of ei ?_))⟩
  rw [List.getElem?_map, hr]
  rfl
theorem LL.dp {p : Addr} {cs : List (List Int)} (h : LL H p cs) : Dp K H (.ref p) (.list (cs.map fun c => .list (c.map PyData.int))) := by
  obtain ⟨rs, h1, h2, h3⟩ := h
  refine .lst (sq_of h1) ?_
  clear h1
  induction cs generalizing rs with
  | nil =>
    have : rs = [] := List.length_eq_zero_iff.mp h2
    subst this
    exact .nil
  | cons c r ih =>
    match rs, h2, h3 with
    | a :: rs, h2, h3 => exact .cons (dp_listI (sq_of (h3 0 a c rfl rfl))) (ih rs (by simpa using h2) fun j r c a b => h3 (j + 1) r c a b)
theorem ll_eqv (cs : List (List Int)) : PyData.eqv (.list (cs.map fun c => .list (c.map PyData.int))) (.list (cs.map fun c => .list (c.map PyData.int))) = true := eqv_list (fun a => eqv_ints a) cs
theorem ll_shaped (cs : List (List Int)) : SeqAt.shaped (.list (cs.map fun c => .list (c.map PyData.int))) = true := shaped_list (n := 10) (by decide) (fun a => by simp only [PyData.canLay0]; exact canLayAll0_map (fun a => by simp [PyData.canLay0]) a) (fun a => by
  have := depthAll_map (f := PyData.int) (n := 1) (fun a => by simp [PyData.depth]) a
  simp only [PyData.depth]
  omega) cs
/-- [f(..), g(..), h(..), k(..)], four new lists -/
theorem ep_lst4L {t1 t2 t3 t4 : TE} {a b c d : List Int} (h1 : EvL t1 σ H (a.map V.int)) (h2 : EvL t2 σ H (b.map V.int)) (h3 : EvL t3 σ H (c.map V.int)) (h4 : EvL t4 σ H (d.map V.int)) : EvP (tLst (tCons t1 (tCons t2 (tCons t3 (tCons t4 tNil))))) σ H fun v H' => ∃ p, v = .ref p ∧ H p = none ∧ LL H' p [a, b, c, d] := fun H0 e0 Q q =>
  h1 H0 e0 _ fun p1 H1 n1 e1 x1 => h2 H1 (e0.trans e1) _ fun p2 H2 n2 e2 x2 => h3 H2 ((e0.trans e1).trans e2) _ fun p3 H3 n3 e3 x3 => h4 H3 (((e0.trans e1).trans e2).trans e3) _ fun p4 H4 n4 e4 x4 => ⟨by show 4 ≤ sizeLine; decide, fun l hl => by
    have e14 := (e2.trans e3).trans e4
    have e5 : Ex H4 (upd H4 l (.lst [.ref p1, .ref p2, .ref p3, .ref p4])) := Ex.new hl
    refine q _ _ ((e1.trans e14).trans e5) ⟨l, rfl, fresh_back (e0.trans (e1.trans e14)) hl, [p1, p2, p3, p4], upd_same, rfl, fun j r cc hr hc => ?_⟩
    match j, hr, hc with
    | 0, hr, hc =>
      cases hr
      cases hc
      exact (e14.trans e5) _ _ x1
    | 1, hr, hc =>
      cases hr
      cases hc
      exact ((e3.trans e4).trans e5) _ _ x2
    | 2, hr, hc =>
      cases hr
      cases hc
      exact (e4.trans e5) _ _ x3
    | 3, hr, hc =>
      cases hr
      cases hc
      exact e5 _ _ x4⟩
theorem given_all (n : Nat) (v : Nat → V) : given n (fun _ => true) v = (List.range n).map v := by
  unfold given
  rw [List.filter_eq_self.mpr fun _ _ => rfl]
/-- [e for j in range(n)] -/
theorem el_lcN {ta : TA} {te : TE} {j : Nat} {vs : List Nat} {n : Nat} {z : Int} (v : Nat → V) (h : EvA ta σ H [.int z]) (ez : z = (n : Int)) (hn : n ≤ 40000) (hw : ∀ x, wipe ((wipe σ vs).set j (some x)) vs = wipe σ vs) (he : ∀ (i : Nat) H1, Ex H H1 → i < n → Ev te ((wipe σ vs).set j (some (.int (i : Int)))) H1 (v i)) :
    EvL (tLc (iRng1 ta) (gName j) tYes te vs) σ H ((List.range n).map v) := by
  subst ez
  rw [← given_all]
  have := el_lcR1 (σ := σ) (H := H) (te := te) (j := j) (vs := vs) (fun _ => true) v h ⟨by omega, by omega⟩ hw (fun i H1 e hi => et_yes) (fun i H1 e hi _ => he i H1 e (by omega))
  rwa [Int.toNat_natCast] at this
theorem cutV_ints (ns : List Int) (lo hi : Option Int) : ∃ ys : List Int, cutV (ns.map V.int) lo hi = ys.map V.int ∧ ys.length ≤ ns.length ∧ ∀ y ∈ ys, y ∈ ns := by
  refine ⟨(ns.drop (HT.sIx ns.length 0 lo)).take (HT.sIx ns.length ns.length hi - HT.sIx ns.length 0 lo), ?_, ?_, fun y hy => List.mem_of_mem_drop (List.mem_of_mem_take hy)⟩
  · unfold cutV
    rw [List.length_map, List.map_take, List.map_drop]
  · rw [List.length_take, List.length_drop]
    omega
/-- [f(x) for x in xs], xs a new list of ints -/
theorem el_lcMap {tl : TE} {j : Nat} {vs : List Nat} {xs : List Int} (f : Int → Int) (h : EvL tl σ H (xs.map V.int)) (hz : xs.length ≤ 40000) (hw : ∀ x, wipe ((wipe σ vs).set j (some x)) vs = wipe σ vs)
    (he : ∀ (x : Int) H1, x ∈ xs → Ex H H1 → Ev te ((wipe σ vs).set j (some (.int x))) H1 (.int (f x))) : EvL (tLc (iList K tl) (gName j) tYes te vs) σ H ((xs.map f).map V.int) := by
  have e : (xs.map f).map V.int = given (xs.map V.int).length (fun _ => true) (fun i => V.int (f (xs.getD i 0))) := by
    rw [given_all, List.length_map]
    refine List.ext_getElem (by simp) fun i h1 h2 => ?_
    have hi : i < xs.length := by simpa using h1
    simp only [List.getElem_map, List.getElem_range]
    rw [List.getD_eq_getElem?_getD, List.getElem?_eq_getElem hi]
    rfl
  rw [e]
  refine el_lcNL (K := K) _ _ h (by rw [List.length_map]; exact hz) hw (fun i x H1 e1 hx => et_yes) (fun i x H1 e1 hx _ => ?_)
  have hi : i < xs.length := by
    have := (List.getElem?_eq_some_iff.mp hx).1
    rwa [List.length_map] at this
  rw [int_at hi] at hx
  have ex := Option.some.inj hx
  subst ex
  have hmem : xs.getD i 0 ∈ xs := by
    rw [List.getD_eq_getElem?_getD, List.getElem?_eq_getElem hi]
    exact List.getElem_mem hi
  exact he _ H1 hmem e1
theorem s_retXS {sp : Sp} {E : L2.St → XK} {vs : List V} {ta : TA} (h : EvA ta σ H vs) (k : ∀ H1, Ex H H1 → sp vs H1 D.rt (E σ)) : tRet (tCallS sp E ta) D σ H := h H (Ex.refl H) _ fun H1 e1 => k H1 e1
/-- return e.name, e.place -/
theorem s_caught {a C d : Addr} {nm : Str} {i : Int} {j : Nat} (hσ : σ[j]? = some (some (.ref a))) (hd : H d = some (.xd (flds nm i))) (q : RetT [.str nm, .int i] H D.rt) : tRet (tTup (tCons (tXf a (.ref C) (some d) C "name" (tVar j)) (tCons (tXf a (.ref C) (some d) C "place" (tVar j)) tNil))) D σ H :=
  ⟨_, hσ, rfl, rfl, d, _, _, rfl, hd, rfl, _, hσ, rfl, rfl, d, _, _, rfl, hd, rfl, by show 2 ≤ sizeLine; decide, fun p hp => q p _ hp (Ex.new hp) upd_same⟩
end
theorem passE0 {X : Cx} : Passes (L2.CX X.prog X.w) X E0 := fun _ _ _ _ _ _ _ ⟨_, _, _, _, _, _, _, _, _, _, _, _, h⟩ => h.elim
theorem len_seqK {X : Cx} {K : PySem.W.Frag} (h : X.K = K) : CallR X (.builtin "len") (Evl.rLenS K) := by
  subst h
  exact call_len_seq
theorem sl_listK {X : Cx} {K : PySem.W.Frag} (h : X.K = K) : SlR X (rSlL K) := by
  subst h
  exact sl_list
theorem op_eqDK {X : Cx} {K : PySem.W.Frag} (hu : X.A.units + 64 < cLine) (h : X.K = K) : OpR X (compareOp .Eq) (rEqD K) := by
  subst h
  exact op_eqD hu
theorem op_notIn_seqK {X : Cx} {K : PySem.W.Frag} (h : X.K = K) : OpR X (compareOp .NotIn) (rIn K true) := by
  subst h
  exact op_notIn_seq
/-- what is never reached -/
theorem ps_never {X : Cx} {st : Stmt} : PS X st (fun _ _ _ => False) := ⟨fun _ _ _ _ _ _ h => h.elim⟩
/-- a call in a try's body -/
theorem pe_callXS {X : Cx} {nm : Str} {k : Nat} {ps : List Str} {sp : Sp} {E : L2.St → XK} {p pos : Pos} {e : Expr} {es : List Expr} {t : TA} (C : CalX X.prog X.w X.K X.mg X.base nm k ps sp) (hr : Room k X.A) (hg : Gl X nm) (hx : ∀ σ, PassesAt (L2.CX X.prog X.w) X σ (E σ)) (ha : PA X (e :: es) t)
    (hdb : (nm == ("__debug__" : Str)) = false := by decide) (he : starEach (e :: es) X.env = (false, eval e X.env) :: starEach es X.env := by rfl) (hpl : (backTo pos (starEach es X.env)).any (·.1) = false := by rfl) :
    PE X (.Call (.Name nm p) (e :: es) [] pos) (tCallS sp E t) := by
  obtain ⟨f, fd, h1, h2, h3, h4⟩ := C.out
  exact pe_callS h4 hr hg h1 h2 h3 hx ha hdb he hpl
end KQ
set_option Elab.async false
set_option linter.all false
set_option maxRecDepth 100000
set_option maxHeartbeats 4000000
/-! [y for x in xs for y in f(x)], where f makes a new list of ints. -/
namespace KW
open PySem PySem.Spec PyProof.Rows L2 StX GX KC KQ Evl
section
variable {K : PySem.W.Frag} {σ : L2.St} {H : Hp} {tl ti : TE}
theorem el_lc2F {l : Addr} {j j1 : Nat} {vs vs1 : List Nat} {xs : List Int} (f : Int → List Int) (h : Ev tl σ H (.ref l)) (hx : SqL K H l (xs.map L2.V.int)) (hn : (xs.flatMap f).length ≤ 40000)
    (hw1 : ∀ x, wipe ((wipe σ vs).set j (some x)) vs = wipe σ vs) (hw2 : ∀ x y, wipe ((wipe ((wipe σ vs).set j (some x)) vs1).set j1 (some y)) vs1 = wipe ((wipe σ vs).set j (some x)) vs1)
    (hv : ∀ x y, ((wipe ((wipe σ vs).set j (some x)) vs1).set j1 (some y))[j1]? = some (some y)) (he : ∀ x ∈ xs, ∀ H1, Ex H H1 → EvL ti ((wipe σ vs).set j (some (.int x))) H1 ((f x).map L2.V.int)) :
    EvL (tLc2 (iList K tl) (gName j) tYes (iList K ti) (gName j1) tYes (tVar j1) vs vs1) σ H ((xs.flatMap f).map L2.V.int) := fun H0 e Q q => h H0 e _ fun Ht e1 => by
  have et := e.trans e1
  have hx' := ex_l et hx
  refine ⟨l, rfl, ⟨_, hx'⟩, fun D hD => ⟨fun i m H' => m + i = xs.length ∧ Ex Ht H' ∧ H' D = some (.lst (((xs.take i).flatMap f).map L2.V.int)), ⟨xs.length, by omega, Ex.new hD, upd_same⟩, ?_⟩⟩
  rintro i m H' ⟨hm, e3, hl⟩
  by_cases hi : i < xs.length
  · right
    have hat : (xs.map L2.V.int)[i]? = some (.int xs[i]) := by rw [List.getElem?_map, List.getElem?_eq_getElem hi]; rfl
    have htk : xs.take (i + 1) = xs.take i ++ [xs[i]] := (List.take_append_getElem hi).symm
    have hmem : xs[i] ∈ xs := List.getElem_mem hi
    have hsub : ((xs.take i).flatMap f).length + (f xs[i]).length ≤ 40000 := by
      have e : xs.flatMap f = (xs.take (i + 1)).flatMap f ++ (xs.drop (i + 1)).flatMap f := by rw [← List.flatMap_append, List.take_append_drop]
      rw [e, List.length_append, htk, List.flatMap_append, List.length_append] at hn
      simp only [List.flatMap_cons, List.flatMap_nil, List.append_nil] at hn
      omega
    generalize xs[i] = x0 at hat htk hmem hsub
    refine ⟨⟨_, _, ex_l e3 hx', hat⟩, fun H' => (m - 1) + (i + 1) = xs.length ∧ Ex Ht H' ∧ H' D = some (.lst (((xs.take (i + 1)).flatMap f).map L2.V.int)), fun H' q => ⟨m - 1, by omega, q⟩, ?_⟩
    rintro x H5 ⟨rfl, hxx⟩
    have ex1 := (Option.some.inj (hat.symm.trans (hxx _ (ex_l e3 hx')))).symm
    subst ex1
    refine ⟨hw1 _, tt_yes (he x0 hmem H5 (et.trans e3) H5 (Ex.refl _) _ fun r H6 hr e6 hrl => ?_)⟩
    have hrD : r ≠ D := fun z => by rw [z, hl] at hr; cases hr
    refine ⟨r, rfl, ⟨_, sq_of hrl⟩, fun j' k H' => k + j' = (f x0).length ∧ Ex Ht H' ∧ H' D = some (.lst (((xs.take i).flatMap f ++ (f x0).take j').map L2.V.int)) ∧ H' r = some (.lst ((f x0).map L2.V.int)), ⟨(f x0).length, by omega, e3.trans e6, by rw [List.take_zero, List.append_nil]; exact e6 _ _ hl, hrl⟩, ?_⟩
    rintro j' kk H7 ⟨hkk, e7, hl7, hr7⟩
    by_cases hj : j' < (f x0).length
    · right
      have hat2 : ((f x0).map L2.V.int)[j']? = some (.int (f x0)[j']) := by rw [List.getElem?_map, List.getElem?_eq_getElem hj]; rfl
      have htj : (f x0).take (j' + 1) = (f x0).take j' ++ [(f x0)[j']] := (List.take_append_getElem hj).symm
      refine ⟨⟨_, _, sq_of hr7, hat2⟩, fun H' => (kk - 1) + (j' + 1) = (f x0).length ∧ Ex Ht H' ∧ H' D = some (.lst (((xs.take i).flatMap f ++ (f x0).take (j' + 1)).map L2.V.int)) ∧ H' r = some (.lst ((f x0).map L2.V.int)), fun H' q => ⟨kk - 1, by omega, q⟩, ?_⟩
      rintro y H8 ⟨rfl, hxy⟩
      have ex2 := (Option.some.inj (hat2.symm.trans (hxy _ (sq_of hr7)))).symm
      subst ex2
      refine ⟨hw2 _ _, tt_yes ⟨_, hv _ _, _, hl7, sz_lt (by rw [List.length_map, List.length_append, List.length_take]; omega), by omega, Ex.mut e7 hD, ?_, by rw [upd_ne hrD]; exact hr7⟩⟩
      rw [upd_same, htj, ← List.append_assoc, List.map_append (l₁ := (xs.take i).flatMap f ++ (f x0).take j')]
      rfl
    · left
      have hjw : j' = (f x0).length := by omega
      subst hjw
      refine ⟨⟨_, sq_of hr7, by rw [List.length_map]; exact Nat.le_refl _⟩, by omega, e7, ?_⟩
      rw [List.take_length] at hl7
      rw [htk, List.flatMap_append]
      simp only [List.flatMap_cons, List.flatMap_nil, List.append_nil]
      exact hl7
  · left
    have hin : i = xs.length := by omega
    subst hin
    rw [List.take_length] at hl
    exact ⟨⟨_, ex_l e3 hx', by rw [List.length_map]; exact Nat.le_refl _⟩, q D H' (fresh_back e1 hD) (e1.trans e3) hl⟩
end
end KW
set_option Elab.async false
set_option linter.all false
set_option maxRecDepth 100000
set_option maxHeartbeats 4000000
/-! A list comprehension over enumerate(xs); a loop over zip(xs, ys). -/
namespace KW
open PySem PySem.Spec PyProof.Rows L2 StX GX KC KQ Evl
section
variable {K : PySem.W.Frag} {σ : L2.St} {H : Hp} {ta tb te : TE} {t : TT} {D : Ends} {tu tz : TS}
theorem el_lcEn {a : Addr} {xs : List L2.V} {j k : Nat} {vs : List Nat} (f : Nat → Bool) (v : Nat → L2.V) (h : Ev ta σ H (.ref a)) (hx : SqL K H a xs) (hz : xs.length ≤ 40000) (hw : ∀ x y, wipe (((wipe σ vs).set j (some x)).set k (some y)) vs = wipe σ vs)
    (ht : ∀ (i : Nat) (x : L2.V) H1, Ex H H1 → xs[i]? = some x → EvT t (((wipe σ vs).set j (some (.int (i : Int)))).set k (some x)) H1 (f i)) (he : ∀ (i : Nat) (x : L2.V) H1, Ex H H1 → xs[i]? = some x → f i = true → Ev te (((wipe σ vs).set j (some (.int (i : Int)))).set k (some x)) H1 (v i)) :
    EvL (tLc (iEnum K (tCons ta tNil)) (gTup K 2 (gCons (gName j) (gCons (gName k) gNil))) t te vs) σ H (given xs.length f v) := fun H0 e Q q => h H0 e _ fun H1 e1 => by
  have hx1 := ex_l (e.trans e1) hx
  refine ⟨a, xs, rfl, hx1, fun Dl hD => ⟨fun i m H' => m + i = xs.length ∧ Cw H1 f v Dl i H', ⟨xs.length, by omega, hD, Ex.new hD, upd_same⟩, ?_⟩⟩
  rintro i m H' ⟨hm, p⟩
  by_cases hi : i < xs.length
  · right
    have hat : xs[i]? = some xs[i] := List.getElem?_eq_getElem hi
    refine ⟨⟨xs, xs[i], ex_l p.2.1 hx1, hat⟩, fun H' => (m - 1) + (i + 1) = xs.length ∧ Cw H1 f v Dl (i + 1) H', fun H' q => ⟨m - 1, by omega, q⟩, ?_⟩
    rintro x H5 ⟨T, y, rfl, hT, rfl, hy⟩
    have ey := hy xs (ex_l p.2.1 hx1)
    have hne : Dl ≠ T := fun z => by rw [← z, p.2.2] at hT; cases hT
    have p2 : Cw H1 f v Dl i (upd H' T (.tup [.int (i : Nat), y])) := ⟨p.1, p.2.1.trans (Ex.new hT), by rw [upd_ne hne]; exact p.2.2⟩
    refine ⟨T, _, rfl, .inl (.inl upd_same), rfl, _, _, rfl, _, _, rfl, rfl, ?_⟩
    refine ⟨hw _ _, ?_⟩
    have c := cw_turn p2 (by omega) (ht i y H1 (e.trans e1) ey) (fun hf => he i y H1 (e.trans e1) ey hf)
    have hmm : (m - 1) + (i + 1) = xs.length := by omega
    simp only [hmm, true_and]
    exact c
  · left
    have hin : i = xs.length := by omega
    subst hin
    exact ⟨⟨xs, ex_l p.2.1 hx1, Nat.le_refl _⟩, q Dl H' (fresh_back e1 p.1) (e1.trans p.2.1) p.2.2⟩
theorem s_forZ {a b : Addr} {xs ys : List L2.V} {j k : Nat} (h : Ev ta σ H (.ref a)) (h2 : Ev tb σ H (.ref b)) (hx : SqL K H a xs) (hy : SqL K H b ys) (hl : xs.length = ys.length) (Pv : Nat → L2.St → Hp → Prop) (h0 : ∀ H1, Ex H H1 → Pv 0 σ H1) (hq : ∀ i σ' H', Pv i σ' H' → SqL K H' a xs ∧ SqL K H' b ys)
    (hs : ∀ i x y σ' H' H2, xs[i]? = some x → ys[i]? = some y → Pv i σ' H' → Ex H' H2 → tu { D with nx := Pv (i + 1), ct := Pv (i + 1), bk := D.nx } ((σ'.set j (some x)).set k (some y)) H2) (hd : ∀ σ' H', Pv xs.length σ' H' → D.nx σ' H') :
    tFor (iZip K (tCons ta (tCons tb tNil))) (gTup K 2 (gCons (gName j) (gCons (gName k) gNil))) tu D σ H :=
  h H (Ex.refl H) _ fun H1 e1 => h2 H1 e1 _ fun H2 e2 => ⟨a, b, xs, ys, rfl, ex_l (e1.trans e2) hx, ex_l (e1.trans e2) hy, _root_.RZ.for_zipL hl Pv (h0 H2 (e1.trans e2)) (fun i σ' H' p => hq i σ' H' p) (fun i x y T σ' H' g1 g2 p hT => ⟨T, _, rfl, .inl (.inl upd_same), rfl, _, _, rfl, _, _, rfl, rfl, hs i x y σ' H' _ g1 g2 p (Ex.new hT)⟩) hd⟩
theorem q_forZ {a b : Addr} {xs ys : List L2.V} {j k : Nat} (h : Ev ta σ H (.ref a)) (h2 : Ev tb σ H (.ref b)) (hx : SqL K H a xs) (hy : SqL K H b ys) (hl : xs.length = ys.length) (Pv : Nat → L2.St → Hp → Prop) (h0 : ∀ H1, Ex H H1 → Pv 0 σ H1) (hq : ∀ i σ' H', Pv i σ' H' → SqL K H' a xs ∧ SqL K H' b ys)
    (hs : ∀ i x y σ' H' H2, xs[i]? = some x → ys[i]? = some y → Pv i σ' H' → Ex H' H2 → tu { D with nx := Pv (i + 1), ct := Pv (i + 1), bk := tz D } ((σ'.set j (some x)).set k (some y)) H2) (hd : ∀ σ' H', Pv xs.length σ' H' → tz D σ' H') :
    tSeq (tFor (iZip K (tCons ta (tCons tb tNil))) (gTup K 2 (gCons (gName j) (gCons (gName k) gNil))) tu) tz D σ H := s_forZ (D := { D with nx := tz D }) h h2 hx hy hl Pv h0 hq hs hd
end
end KW
set_option Elab.async false
set_option linter.all false
set_option maxRecDepth 100000
set_option maxHeartbeats 4000000
/-! A call of a local name that holds one of several defs; a list of new lists; min and index of a list of ints. -/
namespace KW
open PySem PySem.Spec PyProof.Rows L2 StX GX KC KQ Evl
structure HeldX (CX : CXT) (P : Program) (w : World) (K : PySem.W.Frag) (mg : Str → Option Value) (base : Heap) (k : Nat) (f : Addr) (sp : Sp) : Prop where
  ex : ∃ (fd : FuncData) (ps : List Str), FnOk P w K mg base CX k f fd ps sp ∧ PySem.W.keepIn K (.ref f) = true ∧ Binds K fd ps []
/-- the i-th slot holds a def; S tells its promise -/
def tCallR (i : Nat) (S : Addr → Sp → Prop) (E : XK) (t : TA) : TE := fun σ H Q => ∃ f sp, σ[i]? = some (some (.ref f)) ∧ S f sp ∧ t σ H fun vs H1 => sp (vs ++ []) H1 Q E
theorem pe_callR {X : Cx} {CX : CXT} {k i : Nat} {x : Str} {p pos : Pos} {e : Expr} {es : List Expr} {t : TA} {E : XK} {S : Addr → Sp → Prop} (A : ∀ f sp, S f sp → HeldX CX X.prog X.w X.K X.mg X.base k f sp) (hr : Room k X.A) (hx : Passes CX X E) (ha : PA X (e :: es) t)
    (hN : X.N[i]? = some x := by rfl) (hv : Vis X.env.scope x := by first | exact Or.inl rfl | exact Or.inr (Or.inl rfl) | exact Or.inr (Or.inr rfl))
    (hdb : (x == ("__debug__" : Str)) = false := by decide) (hcd : (x == ("__classdict__" : Str)) = false := by decide)
    (he : starEach (e :: es) X.env = (false, eval e X.env) :: starEach es X.env := by rfl) (hpl : (backTo pos (starEach es X.env)).any (·.1) = false := by rfl) : PE X (.Call (.Name x p) (e :: es) [] pos) (tCallR i S E t) := by
  refine ⟨fun pins s σ H Q I h => ?_⟩
  obtain ⟨f, sp, hs, hS, ht⟩ := h
  obtain ⟨fd, ps, F, hk, hb⟩ := (A f sp hS).ex
  exact (pe_callL (i := i) (f := f) (sp := sp) (dvs := []) (E := E) F hr hN hv hk hb .nil hx ha hdb hcd he hpl).run pins s σ H Q I ⟨hs, ht⟩
theorem pi_listK {X : Cx} {K : PySem.W.Frag} {tg l : Expr} {tl : TE} (h : X.K = K) (hl : PE X l tl) : PI X tg l (iList K tl) := by
  subst h
  exact pi_list hl
section
variable {K : PySem.W.Frag} {σ : L2.St} {H H' : Hp} {ta tb te : TE}
theorem el_callR {i : Nat} {S : Addr → Sp → Prop} {E : XK} {t : TA} {f : Addr} {sp : Sp} {vs zs : List V} (hs : σ[i]? = some (some (.ref f))) (hS : S f sp) (h : EvA t σ H vs) (hp : SpL sp (vs ++ []) H zs) : EvL (tCallR i S E t) σ H zs := fun H1 e Q q =>
  ⟨f, sp, hs, hS, h H1 e _ fun H2 e2 => hp H2 (e.trans e2) Q (fun p H3 hp3 e3 h3 => q p H3 (fresh_back e2 hp3) (e2.trans e3) h3) E⟩
theorem ev_lenT {p : Addr} {xs : List V} (ha : Ev ta σ H (.ref p)) (h : SqT K H p xs) : Ev (tCB (rLenS K) (tCons ta tNil)) σ H (.int (xs.length : Int)) := fun H1 e Q q =>
  ha H1 e _ fun H2 e2 => ⟨p, xs, rfl, .inr (ex_t (e.trans e2) h), q H2 e2⟩
/-- [f(i) for i in range(n)], where f makes a new list of ints -/
theorem ep_lcLL {ta : TA} {j n : Nat} {vs : List Nat} (c : Nat → List Int) (h : EvA ta σ H [.int (n : Int)]) (hn : n ≤ 40000) (hw : ∀ x, wipe ((wipe σ vs).set j (some x)) vs = wipe σ vs)
    (he : ∀ (i : Nat) H1, Ex H H1 → i < n → EvL te ((wipe σ vs).set j (some (.int (i : Int)))) H1 ((c i).map V.int)) : EvP (tLc (iRng1 ta) (gName j) tYes te vs) σ H fun v H' => ∃ p, v = .ref p ∧ H p = none ∧ LL H' p ((List.range n).map c) :=
  ep_lcR1 h hn hw (fun H1 Dl i H' => H Dl = none ∧ Ex H1 H' ∧ LL H' Dl ((List.range i).map c)) (fun H1 Dl e hD => ⟨fresh_back e hD, Ex.new hD, [], upd_same, rfl, fun j r c hr => by simp at hr⟩)
    (fun H1 Dl i H' e hD hi ⟨h0, e1, rs, h1, h2, h3⟩ => he i H' (e.trans e1) hi H' (Ex.refl _) _ fun r H4 hr e4 h4 => by
      have hrD : r ≠ Dl := fun z => by rw [z, h1] at hr; cases hr
      rw [List.length_map, List.length_range] at h2
      refine ⟨rs.map V.ref, e4 _ _ h1, sz_lt (by rw [List.length_map]; omega), h0, Ex.mut (e1.trans e4) hD, rs ++ [r], by rw [upd_same, List.map_append] <;> rfl, by rw [List.length_append, List.length_map, List.length_range, h2] <;> rfl, fun j r2 c2 hr2 hc2 => ?_⟩
      rw [List.range_succ, List.map_append] at hc2
      by_cases z : j < i
      · rw [List.getElem?_append_left (by omega)] at hr2
        rw [List.getElem?_append_left (by rw [List.length_map, List.length_range]; exact z)] at hc2
        have h5 := e4 _ _ (h3 j r2 c2 hr2 hc2)
        have hne : r2 ≠ Dl := fun y => by
          have h6 := h3 j r2 c2 hr2 hc2
          rw [y, h1] at h6
          have h7 := (Option.some.inj h6)
          injection h7 with h7
          cases rs with
          | nil => simp at hr2
          | cons a rs =>
            cases c2 with
            | nil => simp at h7
            | cons b c2 => simp at h7
        rw [upd_ne hne]
        exact h5
      · have hj : j = i := by
          have := (List.getElem?_eq_some_iff.mp hr2).1
          rw [List.length_append] at this
          simp at this
          omega
        subst hj
        rw [List.getElem?_append_right (by omega), h2, Nat.sub_self] at hr2
        rw [List.getElem?_append_right (by rw [List.length_map, List.length_range]; omega), List.length_map, List.length_range, Nat.sub_self] at hc2
        cases hr2
        cases hc2
        rw [upd_ne hrD]
        exact h4) (fun H1 Dl H' e hD ⟨h0, e1, h2⟩ => ⟨e1, Dl, rfl, h0, h2⟩)
theorem ev_minL {l : Addr} {ls : List Int} {m : Int} (h : Ev ta σ H (.ref l)) (hs : SqL K H l (ls.map V.int)) (hm : m ∈ ls) (hall : ∀ y ∈ ls, m ≤ y) : Ev (tCB (rMin K) (tCons ta tNil)) σ H (.int m) := fun H1 e Q q =>
  h H1 e _ fun H2 e2 => ⟨l, ls, rfl, ex_l (e.trans e2) hs, List.length_pos_of_mem hm, fun n hn hal => by
    have h1 := hal m hm
    have h2 := hall n hn
    have : n = m := by omega
    subst this
    exact q H2 e2⟩
theorem ev_idxI {l : Addr} {ls : List Int} {m : Int} {j : Nat} (h : Ev ta σ H (.ref l)) (hs : SqL K H l (ls.map V.int)) (h2 : Ev tb σ H (.int m)) (hj : ls[j]? = some m) (hno : ∀ i x, i < j → ls[i]? = some x → x ≠ m) : Ev (tBM K "list" (rIndex K) ta (tCons tb tNil)) σ H (.int (j : Int)) := fun H1 e Q q =>
  h H1 e _ fun H2 e2 => ⟨Or.inl ⟨rfl, _, ex_l (e.trans e2) hs⟩, h2 H2 (e.trans e2) _ fun H3 e3 => ⟨l, ls.map V.int, .int m, j, .int m, rfl, rfl, ex_l ((e.trans e2).trans e3) hs, rfl, by rw [List.all_map]; exact List.all_eq_true.mpr fun x _ => rfl, by rw [List.getElem?_map, hj]; rfl, by simp [eqV], fun i z hi hz => by
    rw [List.getElem?_map] at hz
    cases hx : ls[i]? with
    | none => rw [hx] at hz; cases hz
    | some x =>
      rw [hx] at hz
      cases hz
      have := hno i x hi hx
      simp [eqV, this], q H3 (e2.trans e3)⟩⟩
end
end KW
set_option Elab.async false
set_option linter.all false
set_option maxRecDepth 100000
set_option maxHeartbeats 4000000
/-! dicts whose keys are made on the spot; a dict over a range; list < list. -/
namespace KC
open PySem PySem.Spec PyProof.Rows L2 StX GX Evl
section
variable {P : Program} {w : World} {K : PySem.W.Frag} {σ : L2.St} {H H' : Hp} {td ty tv tk ta tb te tl : TE} {D : Ends} {tz tu : TS} {a b : Addr} {kvs ls : List (List Key × L2.V)} {k : List Key} {v : L2.V}
theorem ev_dgxU {ys : List L2.V} (h1 : Ev td σ H (.ref a)) (h2 : EvU ty σ H ys) (ek : ys = k.map kV) (g : DAt P w K H a kvs) (l : valV kvs k = some v) : Ev (tDGetX P w K td ty) σ H v := fun H1 e Q q => by
  subst ek
  exact h1 H1 e _ fun H2 e2 => h2 H2 (e.trans e2) _ fun p H3 _ e3 hx => ⟨a, kvs, p, k, v, rfl, rfl, g.ext ((e.trans e2).trans e3), st_of hx, l, q H3 (e2.trans e3)⟩
theorem s_dputU {ys : List L2.V} (h : Ev tv σ H v) (h1 : Ev td σ H (.ref a)) (h2 : EvU ty σ H ys) (ek : ys = k.map kV) (g : DAt P w K H a kvs) (hl : kvs.length < 100000)
    (q : ∀ H1 H2, Ex H H1 → DAt P w K H2 a (putK kvs k v) → (∀ c, c ≠ a → H2 c = H1 c) → D.nx σ H2) : sDPutX P w K td ty tv D σ H := by
  subst ek
  exact h H (Ex.refl H) _ fun H1 e1 => h1 H1 e1 _ fun H2 e2 => h2 H2 (e1.trans e2) _ fun p H3 _ e3 hx => ⟨a, kvs, p, k, rfl, rfl, g.ext ((e1.trans e2).trans e3), st_of hx, sz_lt hl, fun H4 hd hk => q H3 H4 ((e1.trans e2).trans e3) hd hk⟩
theorem q_dputU {ys : List L2.V} (h : Ev tv σ H v) (h1 : Ev td σ H (.ref a)) (h2 : EvU ty σ H ys) (ek : ys = k.map kV) (g : DAt P w K H a kvs) (hl : kvs.length < 100000)
    (q : ∀ H1 H2, Ex H H1 → DAt P w K H2 a (putK kvs k v) → (∀ c, c ≠ a → H2 c = H1 c) → tz D σ H2) : tSeq (sDPutX P w K td ty tv) tz D σ H := s_dputU (D := { D with nx := tz D }) h h1 h2 ek g hl q
theorem q_dcR {i j : Nat} {vs : List Nat} {ta : TA} {n : Nat} {z : Int} (key : Nat → List Key) (val : Nat → L2.V) (h : EvA ta σ H [.int z]) (ez : z = (n : Int)) (hn : n ≤ 40000) (hinj : ∀ a b, a < n → b < n → key a = key b → a = b)
    (hw : ∀ x, wipe ((wipe σ vs).set j (some x)) vs = wipe σ vs) (hk : ∀ (i : Nat) H1, Ex H H1 → i < n → EvU tk ((wipe σ vs).set j (some (.int (i : Int)))) H1 ((key i).map kV)) (he : ∀ (i : Nat) H1, Ex H H1 → i < n → Ev tv ((wipe σ vs).set j (some (.int (i : Int)))) H1 (val i))
    (k : ∀ p H1, H p = none → Ex H H1 → DAt P w K H1 p ((List.range n).map fun i => (key i, val i)) → tz D (σ.set i (some (.ref p))) H1) : tSeq (tAsg (tDcX P w K (iRng1 ta) (gName j) tYes tk tv vs) (gName i)) tz D σ H := by
  subst ez
  refine h H (Ex.refl H) _ fun H1 e1 => ?_
  refine ⟨(n : Int), rfl, by omega, by omega, fun Dl hD => ⟨fun i m H' => m + i = n ∧ Ex H1 H' ∧ DAt P w K H' Dl ((List.range i).map fun i => (key i, val i)), ⟨n, by omega, Ex.new hD, ⟨[], newD, upd_same, .nil⟩⟩, ?_⟩⟩
  rintro i' m H' ⟨hm, e2, hda⟩
  by_cases hi : i' < n
  · right
    refine ⟨by show i' < ((n : Int)).toNat; omega, fun H5 => (m - 1) + (i' + 1) = n ∧ Ex H1 H5 ∧ DAt P w K H5 Dl ((List.range (i' + 1)).map fun i => (key i, val i)), fun H5 q => ⟨m - 1, by omega, q⟩, ?_⟩
    rintro v H5 ⟨rfl, rfl⟩
    have e0 : (0 : Int) + (i' : Int) = (i' : Int) := Int.zero_add _
    rw [e0]
    refine ⟨hw _, tt_yes (hk i' H5 (e1.trans e2) hi H5 (Ex.refl _) _ fun p H6 hp e6 h6 => he i' H5 (e1.trans e2) hi H6 e6 _ fun H7 e7 => ?_)⟩
    have hfr : valV ((List.range i').map fun i => (key i, val i)) (key i') = none := by
      rw [valV, List.find?_eq_none.mpr]
      · rfl
      · intro x hx
        obtain ⟨a, ha, rfl⟩ := List.mem_map.mp hx
        have ha2 := List.mem_range.mp ha
        simp only [decide_eq_true_eq]
        intro z
        have := hinj a i' (by omega) hi z
        omega
    refine ⟨_, p, key i', rfl, hda.ext (e6.trans e7), st_of (e7 _ _ h6), sz_lt (by rw [List.length_map, List.length_range]; omega), fun H8 d8 k8 => ⟨by omega, ex_but ((e2.trans e6).trans e7) hD k8, ?_⟩⟩
    rw [putK_new _ hfr] at d8
    rw [List.range_succ, List.map_append]
    exact d8
  · left
    have hin : i' = n := by omega
    subst hin
    exact ⟨by show ((i' : Int)).toNat ≤ i'; omega, k Dl H' (fresh_back e1 hD) (e1.trans e2) hda⟩
end
/-! list < list -/
def rLtL (K : PySem.W.Frag) : R2 := fun x y H Q => ∃ a b ns ms, x = .ref a ∧ y = .ref b ∧ SqL K H a (ns.map V.int) ∧ SqL K H b (ms.map V.int) ∧ Q (.bl (HT.lexLt ns ms)) H
theorem lex_first : ∀ (ns ms : List Int), PySem.SeqAt.firstLt (fun j => decide (ns.getD j 0 = ms.getD j 0)) (fun j => decide (ns.getD j 0 < ms.getD j 0)) (decide (ns.length < ms.length)) (List.range (min ns.length ms.length)) = HT.lexLt ns ms := by
  have gen : ∀ (k : Nat) (ns ms : List Int) (i : Nat), min ns.length ms.length - i = k → i ≤ min ns.length ms.length → PySem.SeqAt.firstLt (fun j => decide (ns.getD j 0 = ms.getD j 0)) (fun j => decide (ns.getD j 0 < ms.getD j 0)) (decide (ns.length < ms.length)) ((List.range (min ns.length ms.length)).drop i) = HT.lexLt (ns.drop i) (ms.drop i) := by
    intro k
    induction k with
    | zero =>
      intro ns ms i h1 h2
      have hi : i = min ns.length ms.length := by omega
      rw [List.drop_of_length_le (by rw [List.length_range]; omega)]
      show decide (ns.length < ms.length) = _
      by_cases z : ns.length < ms.length
      · rw [decide_eq_true z, List.drop_of_length_le (show ns.length ≤ i by omega), List.drop_eq_getElem_cons (show i < ms.length by omega)]
        rfl
      · rw [decide_eq_false z, List.drop_of_length_le (show ms.length ≤ i by omega)]
        cases ns.drop i <;> rfl
    | succ k ih =>
      intro ns ms i h1 h2
      have hm : i < min ns.length ms.length := by omega
      have ha : i < ns.length := by omega
      have hb : i < ms.length := by omega
      have hd : (List.range (min ns.length ms.length)).drop i = i :: (List.range (min ns.length ms.length)).drop (i + 1) := by simp [List.drop_eq_getElem_cons, hm]
      have ga : ns.getD i 0 = ns[i] := by rw [List.getD_eq_getElem?_getD, List.getElem?_eq_getElem ha] <;> rfl
      have gb : ms.getD i 0 = ms[i] := by rw [List.getD_eq_getElem?_getD, List.getElem?_eq_getElem hb] <;> rfl
      rw [hd, List.drop_eq_getElem_cons ha, List.drop_eq_getElem_cons hb, HT.lexLt_cons]
      by_cases z : ns[i] = ms[i]
      · rw [if_pos z, PySem.SeqAt.firstLt_yes (by show decide (ns.getD i 0 = ms.getD i 0) = true; rw [ga, gb]; exact decide_eq_true z)]
        exact ih ns ms (i + 1) (by omega) (by omega)
      · rw [if_neg z, PySem.SeqAt.firstLt_no (by show decide (ns.getD i 0 = ms.getD i 0) = false; rw [ga, gb]; exact decide_eq_false z)]
        show decide (ns.getD i 0 < ms.getD i 0) = _
        rw [ga, gb]
  intro ns ms
  have := gen _ ns ms 0 rfl (Nat.zero_le _)
  rwa [List.drop_zero, List.drop_zero, List.drop_zero] at this
theorem ints_get {vs : List Value} {ns : List Int} (h : IntsAre vs ns) : ∀ j, (hj : j < vs.length) → ∃ t, vs[j] = .int (ns.getD j 0) t := by
  induction h with
  | nil => intro j hj; cases hj
  | cons a t r ih =>
    intro j hj
    cases j with
    | zero => exact ⟨t, rfl⟩
    | succ j => exact ih j (by simpa using hj)
section
variable {X : Cx}
theorem op_ltL (hu : X.A.units < cLine) : OpR X (compareOp .Lt) (rLtL X.K) := by
  intro pins s σ H x y v u Q I rx ry h
  obtain ⟨a, b, ns, ms, rfl, rfl, ha, hb, q⟩ := h
  cases rx
  cases ry
  obtain ⟨its, r1, ⟨o1, n1, g1, c1, _, d1⟩, _⟩ := I.list ha
  obtain ⟨its2, r2, ⟨o2, n2, g2, c2, _, d2⟩, _⟩ := I.list hb
  have i1 : IntsAre its ns := by have := intsAre_of r1; exact this
  have i2 : IntsAre its2 ms := by have := intsAre_of r2; exact this
  have l1 := i1.length
  have l2 := i2.length
  have hr := PySem.SeqAt.RcLt.lists (A := X.A) (s := s) (l := a) (b := b) (items := its.toArray) (items2 := its2.toArray) (e := fun j => decide (ns.getD j 0 = ms.getD j 0)) (r := fun j => decide (ns.getD j 0 < ms.getD j 0)) ⟨o1, g1, c1, n1, d1⟩ ⟨o2, g2, c2, n2, d2⟩ hu
    (fun j h1 h2 => by
      obtain ⟨t1, e1⟩ := ints_get i1 j (by simpa using h1)
      obtain ⟨t2, e2⟩ := ints_get i2 j (by simpa using h2)
      have f1 : its.toArray[j] = .int (ns.getD j 0) t1 := by simpa using e1
      have f2 : its2.toArray[j] = .int (ms.getD j 0) t2 := by simpa using e2
      rw [f1, f2]
      obtain ⟨e, he, hiff⟩ := HT.eqAt_int X.A.in1 s (ns.getD j 0) t1 (ms.getD j 0) t2
      have : e = decide (ns.getD j 0 = ms.getD j 0) := by
        rw [Bool.eq_iff_iff, hiff, decide_eq_true_iff]
      rwa [← this])
    (fun j h1 h2 _ => by
      obtain ⟨t1, e1⟩ := ints_get i1 j (by simpa using h1)
      obtain ⟨t2, e2⟩ := ints_get i2 j (by simpa using h2)
      have f1 : its.toArray[j] = .int (ns.getD j 0) t1 := by simpa using e1
      have f2 : its2.toArray[j] = .int (ms.getD j 0) t2 := by simpa using e2
      rw [f1, f2]
      exact fun prog w E Q h => HT.rcLt_int X.A.in1 s (ns.getD j 0) t1 (ms.getD j 0) t2 prog w E Q h)
  refine hr _ _ _ _ ?_
  have e1 : its.toArray.size = ns.length := by simpa using l1
  have e2 : its2.toArray.size = ms.length := by simpa using l2
  rw [e1, e2, lex_first]
  exact ⟨.bl (HT.lexLt ns ms), H, I, rfl, q⟩
end
section
variable {K : PySem.W.Frag} {σ : L2.St} {H : Hp} {ta tb : TE}
theorem rv_ltL {a b : Addr} {ns ms : List Int} (ha : SqL K H a (ns.map V.int)) (hb : SqL K H b (ms.map V.int)) : RV (rLtL K) (.ref a) (.ref b) H (.bl (HT.lexLt ns ms)) := fun H1 e _ q => ⟨a, b, ns, ms, rfl, rfl, ex_l e ha, ex_l e hb, q H1 (Ex.refl H1)⟩
end
end KC
set_option Elab.async false
set_option linter.all false
set_option maxRecDepth 100000
set_option maxHeartbeats 4000000
namespace K07
open PySem PySem.Spec PyProof.Rows L2 StX GX KC KQ KW Evl M07
/-! tables over ranges -/
def key (s e : Nat) : List Key := [.inl (s : Int), .inl (e : Int)]
theorem key_inj {s e s' e' : Nat} (h : key s e = key s' e') : s = s' ∧ e = e' := by
  unfold key at h
  simp at h
  omega
theorem key_v (s e : Nat) : [V.int (s : Int), V.int (e : Int)] = (key s e).map kV := rfl
def tabR (rs : List (Nat × Nat)) (t : Nat → Nat → Int) : List (List Key × V) := rs.map fun p => (key p.1 p.2, V.int (t p.1 p.2))
theorem tab_some {t : Nat → Nat → Int} : ∀ {rs : List (Nat × Nat)} {s e : Nat}, (s, e) ∈ rs → valV (tabR rs t) (key s e) = some (.int (t s e))
  | [], _, _, h => by cases h
  | p :: r, s, e, h => by
    by_cases z : key p.1 p.2 = key s e
    · obtain ⟨h1, h2⟩ := key_inj z
      show valV ((key p.1 p.2, V.int (t p.1 p.2)) :: tabR r t) _ = _
      rw [valV_pos z, h1, h2]
    · show valV ((key p.1 p.2, V.int (t p.1 p.2)) :: tabR r t) _ = _
      rw [valV_neg z]
      rcases List.mem_cons.mp h with y | y
      · exact absurd (by rw [← y]) z
      · exact tab_some y
theorem tab_none {t : Nat → Nat → Int} : ∀ {rs : List (Nat × Nat)} {s e : Nat}, (s, e) ∉ rs → valV (tabR rs t) (key s e) = none
  | [], _, _, _ => rfl
  | p :: r, s, e, h => by
    have z : key p.1 p.2 ≠ key s e := fun z => by
      obtain ⟨h1, h2⟩ := key_inj z
      refine h ?_
      rw [← h1, ← h2]
      exact List.mem_cons_self
    show valV ((key p.1 p.2, V.int (t p.1 p.2)) :: tabR r t) _ = _
    rw [valV_neg z]
    exact tab_none fun y => h (List.mem_cons_of_mem _ y)
theorem tab_put {t : Nat → Nat → Int} {rs : List (Nat × Nat)} {s e : Nat} (h : (s, e) ∉ rs) : putK (tabR rs t) (key s e) (.int (t s e)) = tabR (rs ++ [(s, e)]) t := by
  rw [putK_new _ (tab_none h)]
  unfold tabR
  rw [List.map_append]
  rfl
def updT (t : Nat → Nat → Int) (s e : Nat) (x : Int) : Nat → Nat → Int := fun a b => if a = s ∧ b = e then x else t a b
theorem tab_upd {t : Nat → Nat → Int} {rs : List (Nat × Nat)} {s e : Nat} {x : Int} (h : (s, e) ∈ rs) : putK (tabR rs t) (key s e) (.int x) = tabR rs (updT t s e x) := by
  have ha : ((tabR rs t).any fun kv => decide (kv.1 = key s e)) = true := List.any_eq_true.mpr ⟨_, List.mem_map.mpr ⟨_, h, rfl⟩, decide_eq_true rfl⟩
  unfold putK
  rw [if_pos ha]
  unfold tabR
  rw [List.map_map]
  refine List.map_congr_left fun p hp => ?_
  show (if key p.1 p.2 = key s e then _ else _) = _
  unfold updT
  by_cases z : key p.1 p.2 = key s e
  · rw [if_pos z, if_pos (key_inj z)]
  · rw [if_neg z, if_neg (fun y => z (by rw [y.1, y.2]))]
theorem tab_len (rs : List (Nat × Nat)) (t : Nat → Nat → Int) : (tabR rs t).length = rs.length := List.length_map _
theorem tab_congr {rs : List (Nat × Nat)} {t t' : Nat → Nat → Int} (h : ∀ p ∈ rs, t p.1 p.2 = t' p.1 p.2) : tabR rs t = tabR rs t' := List.map_congr_left fun p hp => by rw [h p hp]
/-! the ranges, width by width -/
def rg (n d i : Nat) : List (Nat × Nat) := ((List.range d).flatMap fun d' => (List.range (n - d')).map fun s => (s, s + d' + 1)) ++ (List.range i).map fun s => (s, s + d + 1)
theorem mem_rg {n d i s e : Nat} : (s, e) ∈ rg n d i ↔ (s < e ∧ e ≤ n ∧ e - s ≤ d) ∨ (s < i ∧ e = s + d + 1) := by
  unfold rg
  rw [List.mem_append]
  constructor
  · rintro (h | h)
    · obtain ⟨d', h1, h2⟩ := List.mem_flatMap.mp h
      obtain ⟨s', h3, h4⟩ := List.mem_map.mp h2
      have := List.mem_range.mp h1
      have := List.mem_range.mp h3
      cases h4
      exact .inl ⟨by omega, by omega, by omega⟩
    · obtain ⟨s', h3, h4⟩ := List.mem_map.mp h
      have := List.mem_range.mp h3
      cases h4
      exact .inr ⟨this, rfl⟩
  · rintro (⟨h1, h2, h3⟩ | ⟨h1, h2⟩)
    · exact .inl (List.mem_flatMap.mpr ⟨e - s - 1, List.mem_range.mpr (by omega), List.mem_map.mpr ⟨s, List.mem_range.mpr (by omega), by congr 1; omega⟩⟩)
    · exact .inr (List.mem_map.mpr ⟨s, List.mem_range.mpr h1, by rw [h2]⟩)
theorem rg_snoc (n d i : Nat) : rg n d (i + 1) = rg n d i ++ [(i, i + d + 1)] := by
  unfold rg
  rw [List.range_succ, List.map_append, List.append_assoc]
  rfl
theorem rg_next {n d : Nat} : rg n (d + 1) 0 = rg n d (n - d) := by
  unfold rg
  rw [List.range_succ, List.flatMap_append]
  simp
theorem rg_len (n : Nat) : ∀ (d i : Nat), i ≤ n → (rg n d i).length ≤ n * d + n
  | 0, i, h => by simp [rg]; exact h
  | d + 1, i, h => by
    have h1 := rg_len n d (n - d) (by omega)
    have h2 : (rg n (d + 1) i).length = (rg n (d + 1) 0).length + i := by
      unfold rg
      simp
    rw [h2, rg_next]
    have h3 : (rg n d (n - d)).length ≤ n * (d + 1) := by rw [Nat.mul_succ]; exact h1
    have h4 : n * (d + 1) + n ≥ n * (d + 1) + i := by omega
    omega
def rgA (n : Nat) : List (Nat × Nat) := rg n n 0
theorem mem_all {n s e : Nat} : (s, e) ∈ rgA n ↔ s < e ∧ e ≤ n := by
  unfold rgA
  rw [mem_rg]
  omega
theorem rgA_len {n : Nat} (h : n ≤ 100) : (rgA n).length ≤ 10100 := by
  have := rg_len n n 0 (Nat.zero_le _)
  have h2 : n * n ≤ 100 * 100 := Nat.mul_le_mul h h
  unfold rgA
  omega
def partsT (t : Nat → Nat → Int) (s e : Nat) : List Int := (List.range (e - s - 1)).map fun j => t s (s + 1 + j) + t (s + 1 + j) e
theorem parts_val (ws : List Int) (s e : Nat) : partsT (val ws) s e = parts ws s e := rfl
theorem partsT_len (t : Nat → Nat → Int) (s e : Nat) : (partsT t s e).length = e - s - 1 := by simp [partsT]
def sumsL (ws : List Int) : List Int := (List.range (ws.length + 1)).map fun i => (ws.take i).sum
theorem sums_len (ws : List Int) : (sumsL ws).length = ws.length + 1 := by simp [sumsL]
theorem sums_get {ws : List Int} {i : Nat} (h : i ≤ ws.length) : (sumsL ws).getD i 0 = (ws.take i).sum := by
  unfold sumsL
  rw [List.getD_eq_getElem?_getD, List.getElem?_map, List.getElem?_range (by omega)]
  rfl
section
variable {P : Program} {w : World} {K : PySem.W.Frag} {mg : Str → Option Value} {base : Heap} {σ : L2.St} {H H' : Hp} {ta tb te td : TE} {D : Ends}
theorem el_lcR2 {ta : TA} {te : TE} {j : Nat} {vs : List Nat} {lo hi : Nat} {x y : Int} (v : Nat → V) (h : EvA ta σ H [.int x, .int y]) (ex : x = (lo : Int)) (ey : y = (hi : Int)) (hl : lo ≤ hi) (hn : hi ≤ 40000) (hw : ∀ x, wipe ((wipe σ vs).set j (some x)) vs = wipe σ vs)
    (he : ∀ (i : Nat) H1, Ex H H1 → i < hi - lo → Ev te ((wipe σ vs).set j (some (.int ((lo + i : Nat) : Int)))) H1 (v i)) : EvL (tLc (iRng2 ta) (gName j) tYes te vs) σ H ((List.range (hi - lo)).map v) := by
  subst ex ey
  rw [← given_all]
  exact fun H0 e Q q => h H0 e _ fun H1 e1 => ⟨(lo : Int), (hi : Int), rfl, ⟨by omega, by omega, by omega, by omega⟩, fun Dl hD =>
    lc_range (lo := (lo : Int)) (n := ((hi : Int) - (lo : Int)).toNat) (Cw H1 (fun _ => true) v Dl) ⟨hD, Ex.new hD, upd_same⟩ (fun i H' hi2 p => by
      have e0 : (lo : Int) + (i : Int) = ((lo + i : Nat) : Int) := by push_cast; rfl
      have hi3 : i < hi - lo := by omega
      show wipe ((wipe σ vs).set j (some (.int ((lo : Int) + (i : Int))))) vs = wipe σ vs ∧ tYes ((wipe σ vs).set j (some (.int ((lo : Int) + (i : Int))))) H' fun b H3 => if b = true then te ((wipe σ vs).set j (some (.int ((lo : Int) + (i : Int))))) H3 fun y H4 => ∃ acc, H4 Dl = some (.lst acc) ∧ acc.length < sizeLine ∧ Cw H1 (fun _ => true) v Dl (i + 1) (upd H4 Dl (.lst (acc ++ [y]))) else Cw H1 (fun _ => true) v Dl (i + 1) H3
      rw [e0]
      exact ⟨hw _, cw_turn p (by omega) et_yes (fun hf => he i H1 (e.trans e1) hi3)⟩) (fun H' p => q Dl H' (fresh_back e1 p.1) (e1.trans p.2.1) (by
        have h5 := p.2.2
        rwa [show ((hi : Int) - (lo : Int)).toNat = hi - lo by omega] at h5))⟩
theorem units1 {k : Nat} {A : Around} (hr : Room k A) : A.units + 1 < cLine := by
  have := hr.units
  omega
theorem ev_minN2 {te : TE} {ls : List Int} (h : EvL te σ H (ls.map V.int)) (hne : ls ≠ []) : Ev (tCB (rMin K) (tCons te tNil)) σ H (.int (minL ls)) := fun H1 e Q q =>
  h H1 e _ fun p H2 hp e2 hx => ⟨p, ls, rfl, sq_of hx, List.length_pos_of_mem (minL_mem hne), fun n hn hal => by
    have h1 := hal _ (minL_mem hne)
    have h2 := minL_le hn
    have : n = minL ls := by omega
    subst this
    exact q H2 e2⟩
theorem len_is {te : TE} {l : Addr} {bs : List Int} (h : Ev te σ H (.ref l)) (hs : SqL K H l (bs.map V.int)) : Ev (tCB (Evl.rLenS K) (tCons te tNil)) σ H (.int (bs.length : Int)) := ev_is (ev_len h hs) (by rw [List.length_map])
/-! running sums -/
def spSums (K : PySem.W.Frag) : Sp := fun vs H Q _ => ∃ (l : Addr) (ws : List Int), vs = [.ref l] ∧ SqL K H l (ws.map V.int) ∧ ws.length ≤ 1000 ∧ RetL ((sumsL ws).map V.int) H Q
theorem ok_running_sums {f : Addr} {fd : FuncData} {k : Nat} (F : Fun K "running_sums" "running_sums" s_running_sums f fd) (B : Bs mg) : FnOk P w K mg base CX0 (k + 1) f fd ["weights"] (spSums K) := by
  refine F.ok sc_running_sums (fun vs H Q E h => ?_) (fun cdv A outer s H vs Q E hr h => ?_)
  · obtain ⟨l, ws, rfl, _⟩ := h
    rfl
  · obtain ⟨l, ws, rfl, hs, hl, q⟩ := h
    refine ⟨_, (pss_cons (ps_set (i := 1) sc_running_sums.nd rfl (Or.inl rfl) (pe_lst (pa_cons pe_int pa_nil)))
      (pss_cons (ps_for PassesOwn.never rfl (pi_list (pv 0)) (pg_name (i := 2) sc_running_sums.nd rfl (Or.inl rfl)) (pss_one (ps_expr (pe_bm PySem.F.plainAttrs_list PySem.F.slot_list_append PySem.F.type_list_append mt_append (pv 1) (pa_cons (pe_op op_add (pe_ix ix_list (pv 1) (pe_un un_neg pe_int) (fun _ _ => rfl)) (pv 2)) pa_nil)))))
      (pss_one (ps_ret (pv 1))))), ?_⟩
    refine q_asgL (xs := [V.int 0]) (el_lst (ea1 ev_c) (by decide)) fun p H1 hp e1 h1 => ?_
    refine q_forLn (ev_var rfl) (ex_l e1 hs) (fun i σ' H' => ∃ y : Option V, σ' = [some (.ref l), some (.ref p), y] ∧ Ex H H' ∧ H' p = some (.lst (((List.range (i + 1)).map fun i => (ws.take i).sum).map V.int)))
      (fun H5 e5 => ⟨none, rfl, e1.trans e5, e5 _ _ h1⟩) (fun i σ' H' _ ⟨_, _, z, _⟩ => ex_l z hs) ?_ ?_
    · rintro i v σ' H' hv ⟨y, rfl, ex, z⟩
      have hi : i < ws.length := by
        have := (List.getElem?_eq_some_iff.mp hv).1
        rwa [List.length_map] at this
      rw [int_at hi] at hv
      obtain rfl := Option.some.inj hv
      refine s_app z (ev_var rfl) (ev_add (i := (ws.take i).sum) (j := ws.getD i 0) (ev_op (ev_var rfl) (ev_un (x := .int 1) ev_c ru_neg) (rv_ixL (sq_of z) (by
        rw [List.range_succ, List.map_append, List.map_append]
        exact atI_last _ _))) (ev_var rfl)) (by rw [List.length_map, List.length_map, List.length_range]; omega) fun H5 e5 => ⟨_, rfl, Ex.mut (ex.trans e5) hp, ?_⟩
      rw [upd_same, List.range_succ (n := i + 1), List.map_append (l₁ := List.range (i + 1)), List.map_append]
      simp only [List.map_cons, List.map_nil, take_get ws hi]
    · rintro σ' H' ⟨y, rfl, ex, z⟩
      rw [List.length_map] at z
      exact s_ret (ev_var rfl) fun H5 e5 => q p H5 hp (ex.trans e5) (e5 _ _ z)
/-! parted values -/
def spParts (P : Program) (w : World) (K : PySem.W.Frag) : Sp := fun vs H Q _ => ∃ (p : Addr) (s e : Nat) (rs : List (Nat × Nat)) (t : Nat → Nat → Int), vs = [.ref p, .int (s : Int), .int (e : Int)] ∧ DAt P w K H p (tabR rs t) ∧ s < e ∧ e ≤ 1000 ∧ (∀ k, s < k → k < e → (s, k) ∈ rs ∧ (k, e) ∈ rs) ∧ RetL ((partsT t s e).map V.int) H Q
theorem ok_parted_values {f : Addr} {fd : FuncData} {k : Nat} (F : Fun K "parted_values" "parted_values" s_parted_values f fd) (B : Bs mg) : FnOk P w K mg base CX0 (k + 1) f fd ["table", "start", "end"] (spParts P w K) := by
  refine F.ok sc_parted_values (fun vs H Q E h => ?_) (fun cdv A outer s H vs Q E hr h => ?_)
  · obtain ⟨p, s, e, rs, t, rfl, _⟩ := h
    rfl
  · obtain ⟨p, s, e, rs, t, rfl, hd, hse, he, hin, q⟩ := h
    have hu := units1 hr
    refine ⟨_, (pss_one (ps_ret (pe_lc rfl sc_parted_values.nd (pi_range2 (by rfl) B.range (pa_cons (pe_op op_add (pv 1) pe_int) (pa_cons (pv 2) pa_nil))) (blkOk_by (own := [("middle", 3)]) (N := ["table", "start", "end", "middle"]) (sc := defScope s_parted_values) (by decide +kernel)) (fun _ _ _ _ _ => (pg_name (i := 3) sc_parted_values.nd rfl (Or.inl rfl))) (fun _ _ _ _ _ => pts_nil) (fun _ _ _ _ _ => (pe_op op_add (pe_dgx (P := P) (w := w) (K := K) ⟨rfl, rfl, rfl⟩ hu (pv 0) (pe_tup (pa_cons (pv 1) (pa_cons (pv 3) pa_nil))) (fun _ _ => rfl)) (pe_dgx (P := P) (w := w) (K := K) ⟨rfl, rfl, rfl⟩ hu (pv 0) (pe_tup (pa_cons (pv 3) (pa_cons (pv 2) pa_nil))) (fun _ _ => rfl))))))), ?_⟩
    refine s_retL (xs := (partsT t s e).map V.int) ?_ fun p2 H1 hp e1 h1 => q p2 H1 hp e1 h1
    unfold partsT
    rw [List.map_map, Nat.sub_sub]
    refine el_lcR2 (lo := s + 1) (hi := e) _ (ea2 (ev_add (ev_var (v := .int (s : Int)) rfl) ev_c) (ev_var rfl)) (by push_cast; rfl) rfl (by omega) (by omega) (fun x => rfl) fun i H1 e1 hi => ?_
    obtain ⟨g1, g2⟩ := hin (s + 1 + i) (by omega) (by omega)
    exact ev_add (ev_dgxU (ev_var rfl) (eu_tup (ea2 (ev_var rfl) (ev_var rfl)) (by show 2 ≤ 100000; decide)) (key_v s (s + 1 + i)) (hd.ext e1) (tab_some g1)) (ev_dgxU (ev_var rfl) (eu_tup (ea2 (ev_var rfl) (ev_var rfl)) (by show 2 ≤ 100000; decide)) (key_v (s + 1 + i) e) (hd.ext e1) (tab_some g2))
end
end K07
set_option Elab.async false
set_option linter.all false
set_option maxRecDepth 100000
set_option maxHeartbeats 4000000
namespace K07
open PySem PySem.Spec PyProof.Rows L2 StX GX KC KQ KW Evl M07
section
variable {P : Program} {w : World} {K : PySem.W.Frag} {mg : Str → Option Value} {base : Heap} {σ : L2.St} {H H' : Hp} {ta tb te td tl : TE} {D : Ends}
def RetX (P : Program) (w : World) (K : PySem.W.Frag) (kvs : List (List Key × V)) (H : Hp) (Q : VK) : Prop := ∀ p H2, H p = none → Ex H H2 → DAt P w K H2 p kvs → Q (.ref p) H2
def spValues (P : Program) (w : World) (K : PySem.W.Frag) : Sp := fun vs H Q _ => ∃ (l : Addr) (ws : List Int), vs = [.ref l] ∧ SqL K H l (ws.map V.int) ∧ 1 ≤ ws.length ∧ ws.length ≤ 100 ∧ RetX P w K (tabR (rgA ws.length) (val ws)) H Q
theorem rg_len2 {n d i : Nat} (h : n ≤ 100) (hd : d ≤ n) (hi : i ≤ n) : (rg n d i).length < 100000 := by
  have := rg_len n d i hi
  have h2 : n * d ≤ 100 * 100 := Nat.mul_le_mul h (by omega)
  omega
theorem ok_range_values {f : Addr} {fd : FuncData} {k : Nat} (F : Fun K "range_values" "range_values" s_range_values f fd) (B : Bs mg) (C_running_sums : Cal P w K mg base "running_sums" 1 ["weights"] (spSums K)) (C_parted_values : Cal P w K mg base "parted_values" 1 ["table", "start", "end"] (spParts P w K)) :
    FnOk P w K mg base CX0 (k + 2) f fd ["weights"] (spValues P w K) := by
  refine F.ok sc_range_values (fun vs H Q E h => ?_) (fun cdv A outer s H vs Q E hr h => ?_)
  · obtain ⟨l, ws, rfl, _⟩ := h
    rfl
  · obtain ⟨l, ws, rfl, hs, h1, hl, q⟩ := h
    have hu := units1 hr
    refine ⟨_, (pss_cons (ps_set (i := 1) sc_range_values.nd rfl (Or.inl rfl) (pe_callC C_running_sums (hr.mono (by omega)) (by rfl) (pa_cons (pv 0) pa_nil)))
      (pss_cons (ps_set (i := 2) sc_range_values.nd rfl (Or.inl rfl) (pe_callB call_len_seq (by rfl) B.len PySem.boot_len (pa_cons (pv 0) pa_nil)))
      (pss_cons (ps_setDcX (P := P) (w := w) (K := K) (i := 3) ⟨rfl, rfl, rfl⟩ (Nat.lt_of_le_of_lt (Nat.le_add_right _ _) hu) rfl sc_range_values.nd rfl rfl (sw_dict rfl rfl rfl (by decide +kernel)) (pi_range1 (by rfl) B.range (pa_cons (pv 2) pa_nil)) (blkOk_by (own := [("start", 4)]) (N := ["weights", "sums", "count", "table", "start", "width", "end"]) (sc := defScope s_range_values) (by decide +kernel)) (fun _ _ _ _ _ => (pg_name (i := 4) sc_range_values.nd rfl (Or.inl rfl))) (fun _ _ _ _ _ => pts_nil) (fun _ _ _ _ _ => (pe_tup (pa_cons (pv 4) (pa_cons (pe_op op_add (pv 4) pe_int) pa_nil)))) (fun _ _ _ _ _ => pe_int))
      (pss_cons (ps_for PassesOwn.never rfl (pi_range2 (by rfl) B.range (pa_cons pe_int (pa_cons (pe_op op_add (pv 2) pe_int) pa_nil))) (pg_name (i := 5) sc_range_values.nd rfl (Or.inl rfl)) (pss_one (ps_for PassesOwn.never rfl (pi_range1 (by rfl) B.range (pa_cons (pe_op op_add (pe_op op_sub (pv 2) (pv 5)) pe_int) pa_nil)) (pg_name (i := 4) sc_range_values.nd rfl (Or.inl rfl)) (pss_cons (ps_set (i := 6) sc_range_values.nd rfl (Or.inl rfl) (pe_op op_add (pv 4) (pv 5)))
      (pss_one (ps_dputX (P := P) (w := w) (K := K) ⟨rfl, rfl, rfl⟩ hu (pv 3) (pe_tup (pa_cons (pv 4) (pa_cons (pv 6) pa_nil))) (pe_op op_add (pe_op op_sub (pe_ix ix_list (pv 1) (pv 6) (fun _ _ => rfl)) (pe_ix ix_list (pv 1) (pv 4) (fun _ _ => rfl))) (pe_callB (cr_min rfl) (by rfl) B.min (by decide +kernel) (pa_cons (pe_callC C_parted_values (hr.mono (by omega)) (by rfl) (pa_cons (pv 3) (pa_cons (pv 4) (pa_cons (pv 6) pa_nil)))) pa_nil))) rfl))))))
      (pss_one (ps_ret (pv 3))))))), ?_⟩
    obtain ⟨n, hn⟩ : ∃ n, n = ws.length := ⟨_, rfl⟩
    refine q_asgL (xs := (sumsL ws).map V.int) (el_call (ea1 (ev_var rfl)) fun H1 e1 Q q E => ⟨l, ws, rfl, ex_l e1 hs, by omega, q⟩) fun ps H1 hps e1 h1s => ?_
    refine q_asg (v := .int (n : Int)) (ev_is (len_is (ev_var rfl) (ex_l e1 hs)) (by rw [hn])) fun H2 e2 => ?_
    have e02 := e1.trans e2
    refine q_dcR (fun i => key i (i + 1)) (fun _ => V.int 0) (ea1 (ev_var (v := .int (n : Int)) rfl)) rfl (by omega) (fun a b _ _ h => (key_inj h).1) (fun x => rfl) (fun i H3 e3 hi => eu_tup (ea2 (ev_var rfl) (ev_is (ev_add (ev_var (v := .int (i : Int)) rfl) ev_c) (by push_cast; rfl))) (by show 2 ≤ 100000; decide)) (fun i H3 e3 hi => ev_c) fun pt H3 hpt e3 hd3 => ?_
    have hd3' : DAt P w K H3 pt (tabR (rg n 1 0) (val ws)) := by
      rw [rg_next]
      have : tabR (rg n 0 (n - 0)) (val ws) = (List.range n).map fun i => (key i (i + 1), V.int 0) := by
        unfold tabR rg
        rw [List.range_zero, List.flatMap_nil, List.nil_append, List.map_map, Nat.sub_zero]
        refine List.map_congr_left fun i hi => ?_
        show (key i (i + 0 + 1), V.int (val ws i (i + 0 + 1))) = _
        rw [val_one (by omega)]
      rw [this]
      exact hd3
    have e03 := e02.trans e3
    have hpt0 := fresh_back e02 hpt
    have hne : ps ≠ pt := fun z => by rw [← z, e2 _ _ h1s] at hpt; cases hpt
    refine q_forR2 (lo := 2) (n := ((n + 1 : Nat) : Int)) (ea2 ev_c (ev_is (ev_add (ev_var (v := .int (n : Int)) rfl) ev_c) (by push_cast; rfl))) ⟨by decide, by decide, by omega, by omega⟩
      (fun i σ' H' => ∃ x y z : Option V, σ' = [some (.ref l), some (.ref ps), some (.int (n : Int)), some (.ref pt), x, y, z] ∧ Ex H H' ∧ H' ps = some (.lst ((sumsL ws).map V.int)) ∧ DAt P w K H' pt (tabR (rg n (1 + i) 0) (val ws)))
      (fun H4 e4 => ⟨none, none, none, rfl, e03.trans e4, ((e2.trans e3).trans e4) _ _ h1s, hd3'.ext e4⟩) ?_ ?_
    · rintro i σ' H4 hi ⟨x, y, z, rfl, ex4, hs4, hd4⟩
      have hin : 2 + i ≤ n := by omega
      refine s_forR1 (n := ((n - (1 + i) : Nat) : Int)) (ea1 (ev_is (ev_add (ev_sub (ev_var (v := .int (n : Int)) rfl) (ev_var (v := .int ((2 : Int) + (i : Int))) rfl)) ev_c) (by congr 1; omega))) ⟨by omega, by omega⟩
        (fun j σ' H' => ∃ x z : Option V, σ' = [some (.ref l), some (.ref ps), some (.int (n : Int)), some (.ref pt), x, some (.int ((2 : Int) + (i : Int))), z] ∧ Ex H H' ∧ H' ps = some (.lst ((sumsL ws).map V.int)) ∧ DAt P w K H' pt (tabR (rg n (1 + i) j) (val ws)))
        (fun H5 e5 => ⟨x, z, rfl, ex4.trans e5, e5 _ _ hs4, hd4.ext e5⟩) ?_ ?_
      · rintro j σ' H5 hj ⟨x, z, rfl, ex5, hs5, hd5⟩
        have hj2 : j + (2 + i) ≤ n := by omega
        refine q_asg (v := .int ((j + (1 + i) + 1 : Nat) : Int)) (ev_is (ev_add (ev_var (v := .int (j : Int)) rfl) (ev_var (v := .int ((2 : Int) + (i : Int))) rfl)) (by congr 1; omega)) fun H6 e6 => ?_
        have hlen := sums_len ws
        have hv : val ws j (j + (1 + i) + 1) = (sumsL ws).getD (j + (1 + i) + 1) 0 - (sumsL ws).getD j 0 + minL (partsT (val ws) j (j + (1 + i) + 1)) := by
          rw [val_up (by omega), sums_get (by omega), sums_get (by omega)]
          rfl
        have hs6 := e6 _ _ hs5
        have hd6 := hd5.ext e6
        refine s_dputU (k := key j (j + (1 + i) + 1)) (v := .int (val ws j (j + (1 + i) + 1))) (ev_is (ev_add (ev_sub (ev_op (ev_var rfl) (ev_var (v := .int ((j + (1 + i) + 1 : Nat) : Int)) rfl) (rv_ixL (sq_of hs6) (atI_at rfl (by omega)))) (ev_op (ev_var rfl) (ev_var (v := .int (j : Int)) rfl) (rv_ixL (sq_of hs6) (atI_at rfl (by omega))))) (ev_minN2 (ls := partsT (val ws) j (j + (1 + i) + 1)) (el_call (ea3 (ev_var rfl) (ev_var rfl) (ev_var rfl)) fun H7 e7 Q q E => ⟨pt, j, j + (1 + i) + 1, rg n (1 + i) j, val ws, rfl, hd6.ext e7, by omega, by omega, fun k2 h1 h2 => ⟨mem_rg.mpr (.inl ⟨by omega, by omega, by omega⟩), mem_rg.mpr (.inl ⟨by omega, by omega, by omega⟩)⟩, q⟩) (fun z => by have := partsT_len (val ws) j (j + (1 + i) + 1); rw [z, List.length_nil] at this; omega))) (by rw [hv])) (ev_var rfl) (eu_tup (ea2 (ev_var rfl) (ev_var rfl)) (by show 2 ≤ 100000; decide)) (key_v _ _) hd6 (by rw [tab_len]; exact rg_len2 (by omega) (by omega) (by omega)) fun H7 H8 e7 hd8 hk8 => ?_
        rw [tab_put (by rw [mem_rg]; omega), ← rg_snoc] at hd8
        exact ⟨_, _, rfl, ex_but ((ex5.trans e6).trans e7) hpt0 hk8, by rw [hk8 _ hne]; exact e7 _ _ hs6, hd8⟩
      · rintro σ' H5 ⟨x, z, rfl, ex5, hs5, hd5⟩
        rw [Int.toNat_natCast, ← rg_next] at hd5
        exact ⟨_, _, _, rfl, ex5, hs5, hd5⟩
    · rintro σ' H4 ⟨x, y, z, rfl, ex4, hs4, hd4⟩
      have e9 : 1 + (((n + 1 : Nat) : Int) - 2).toNat = n := by omega
      rw [e9] at hd4
      refine s_ret (ev_var rfl) fun H5 e5 => q pt H5 hpt0 (ex4.trans e5) ?_
      rw [← hn]
      exact hd4.ext e5
/-! the cut -/
def spCut (P : Program) (w : World) (K : PySem.W.Frag) : Sp := fun vs H Q _ => ∃ (p : Addr) (s e n : Nat) (ws : List Int), vs = [.ref p, .int (s : Int), .int (e : Int)] ∧ DAt P w K H p (tabR (rgA n) (val ws)) ∧ s + 1 < e ∧ e ≤ n ∧ n ≤ 100 ∧ RetV (.int (cut ws s e : Nat)) H Q
theorem ok_range_cut {f : Addr} {fd : FuncData} {k : Nat} (F : Fun K "range_cut" "range_cut" s_range_cut f fd) (B : Bs mg) (C_parted_values : Cal P w K mg base "parted_values" 1 ["table", "start", "end"] (spParts P w K)) :
    FnOk P w K mg base CX0 (k + 2) f fd ["table", "start", "end"] (spCut P w K) := by
  refine F.ok sc_range_cut (fun vs H Q E h => ?_) (fun cdv A outer s H vs Q E hr h => ?_)
  · obtain ⟨p, s, e, n, ws, rfl, _⟩ := h
    rfl
  · obtain ⟨p, s, e, n, ws, rfl, hd, hse, hen, hn, q⟩ := h
    refine ⟨_, (pss_cons (ps_set (i := 3) sc_range_cut.nd rfl (Or.inl rfl) (pe_callC C_parted_values (hr.mono (by omega)) (by rfl) (pa_cons (pv 0) (pa_cons (pv 1) (pa_cons (pv 2) pa_nil)))))
      (pss_one (ps_ret (pe_op op_add (pe_op op_add (pv 1) pe_int) (pe_bm PySem.F.plainAttrs_list PySem.F.slot_list_index PySem.F.type_list_index mt_index (pv 3) (pa_cons (pe_callB (cr_min rfl) (by rfl) B.min (by decide +kernel) (pa_cons (pv 3) pa_nil)) pa_nil)))))), ?_⟩
    refine q_asgL (xs := (parts ws s e).map V.int) (el_call (ea3 (ev_var rfl) (ev_var rfl) (ev_var rfl)) fun H1 e1 Q q E => ⟨p, s, e, rgA n, val ws, rfl, hd.ext e1, by omega, by omega, fun k2 h1 h2 => ⟨mem_all.mpr ⟨by omega, by omega⟩, mem_all.mpr ⟨by omega, by omega⟩⟩, q⟩) fun pf H1 hpf e1 h1 => ?_
    have hne := parts_ne (ws := ws) hse
    have hix := ix_lt hne
    have hat := ix_at hne
    refine s_ret (ev_is (ev_add (ev_add (ev_var (v := .int (s : Int)) rfl) ev_c) (ev_idxI (m := minL (parts ws s e)) (j := ix (parts ws s e)) (ev_var rfl) (sq_of h1) (ev_minL (ev_var rfl) (sq_of h1) (minL_mem hne) fun y hy => minL_le hy) (by
      rw [List.getD_eq_getElem?_getD, List.getElem?_eq_getElem hix] at hat
      rw [List.getElem?_eq_getElem hix]
      exact congrArg some hat) fun i x hi hx => by
        have := ix_before hi
        rw [List.getD_eq_getElem?_getD, hx] at this
        exact this)) (by unfold cut; push_cast; rfl)) fun H2 e2 => q H2 (e1.trans e2)
end
end K07
set_option Elab.async false
set_option linter.all false
set_option maxRecDepth 100000
set_option maxHeartbeats 4000000
namespace K07
open PySem PySem.Spec PyProof.Rows L2 StX GX KC KQ KW Evl M07
def lowB (ws : List Int) (t : Nat → Nat → Int) (s e : Nat) : Bool := if e = s + 1 then decide (t s e ≤ 0) else (partsT t s e).all fun x => decide (t s e ≤ sm ws s e + x)
section
variable {P : Program} {w : World} {K : PySem.W.Frag} {mg : Str → Option Value} {base : Heap} {σ : L2.St} {H H' : Hp} {ta tb te td tl : TE} {D : Ends}
theorem ev_allNL {Pt : Addr} {cm : List (Option Nat)} {own : List Nat} {xs : List Int} (b : Int → Bool) (h : EvL tl σ H (xs.map L2.V.int)) (hn : xs.length ≤ 1000) (tab : H Pt = some (TabX Pt))
    (hw : ∀ x, wipe ((captS cm σ).set 0 (some x)) own = captS cm σ) (he : ∀ x ∈ xs, ∀ H1, Ex H H1 → Ev te ((captS cm σ).set 0 (some (.int x))) H1 (.bl (b x))) :
    Ev (tAllG (tGx Pt (iList K tl) (gName 0) tYes te cm own)) σ H (.bl (xs.all b)) := fun H1 e Q q =>
  h H1 e _ fun p H3 hp e3 hx => ev_allL (K := K) (tl := fun _ H Q => Q (.ref p) H) (σ := σ) (H := H3) b (fun H4 e4 Q q => q H4 (Ex.refl _)) (sq_of hx) hn (e3 _ _ (e _ _ tab)) hw (fun x hx H4 e4 => he x hx H4 ((e.trans e3).trans e4)) H3 (Ex.refl _) Q fun H4 e4 => q H4 (e3.trans e4)
/-- all(b(s, e) for s, e in table) -/
theorem ev_allT {Pt d : Addr} {cm : List (Option Nat)} {own : List Nat} {rs : List (Nat × Nat)} {t : Nat → Nat → Int} (b : Nat → Nat → Bool) (h : Ev td σ H (.ref d)) (hd : DAt P w K H d (tabR rs t)) (hn : rs.length ≤ 90000) (tab : H Pt = some (TabX Pt))
    (hw : ∀ x y, wipe (((captS cm σ).set 0 (some x)).set 1 (some y)) own = captS cm σ) (he : ∀ p ∈ rs, ∀ H1, Ex H H1 → Ev te (((captS cm σ).set 0 (some (.int (p.1 : Int)))).set 1 (some (.int (p.2 : Int)))) H1 (.bl (b p.1 p.2))) :
    Ev (tAllG (tGx Pt (iDX P w td) (gTup K 2 (gCons (gName 0) (gCons (gName 1) gNil))) tYes te cm own)) σ H (.bl (rs.all fun p => b p.1 p.2)) := fun H1 e Q q =>
  h H1 e _ fun H3 e13 => by
    have e03 := e.trans e13
    obtain ⟨xs, o, ho, hk⟩ := hd
    have hl : xs.length = rs.length := by rw [← Paired.length hk]; exact List.length_map _
    have hks := isKeysX_of hk
    refine ⟨d, xs, o, rfl, e03 _ _ ho, e03 Pt _ tab, fun i m zs H' => m + i = rs.length ∧ Ex H3 H' ∧ zs = (rs.take i).map fun p => L2.V.bl (b p.1 p.2), ⟨rs.length, by omega, Ex.refl _, rfl⟩, ?_⟩
    rintro i m zs H' ⟨hm, e4, rfl⟩
    have e04 := e03.trans e4
    by_cases hi : i < rs.length
    · right
      refine ⟨⟨e04 _ _ ho, by rw [List.length_map]; omega⟩, fun zs H5 => (m - 1) + (i + 1) = rs.length ∧ Ex H3 H5 ∧ zs = (rs.take (i + 1)).map fun p => L2.V.bl (b p.1 p.2), fun zs H5 q => ⟨m - 1, by omega, q⟩, ?_⟩
      rintro v H5 ⟨rfl, c, hc, rfl⟩
      have hmem : rs[i] ∈ rs := List.getElem_mem hi
      have hki : (tabR rs t)[i]? = some (key rs[i].1 rs[i].2, V.int (t rs[i].1 rs[i].2)) := by
        unfold tabR
        rw [List.getElem?_map, List.getElem?_eq_getElem hi]
        rfl
      have hkc : SqT K H c ((key rs[i].1 rs[i].2).map kV) := pair_at hks hki hc
      have htk : rs.take (i + 1) = rs.take i ++ [rs[i]] := (List.take_append_getElem hi).symm
      refine g_two (ex_t e04 hkc) ?_
      refine ⟨hw _ _, tt_yes ?_⟩
      refine he _ hmem _ e04 _ (Ex.refl _) _ fun H7 e7 => ?_
      refine ⟨sz_lt (by rw [List.length_map, List.length_take]; omega), ⟨_, rfl, fun z => ?_⟩, by omega, e4.trans e7, ?_⟩
      · have : (rs.all fun p => b p.1 p.2) = false := List.all_eq_false.mpr ⟨_, hmem, by rw [z]; exact Bool.false_ne_true⟩
        rw [← this]
        exact q _ ((e13.trans e4).trans e7)
      · rw [htk, List.map_append]
        rfl
    · left
      have hin : i = rs.length := by omega
      subst hin
      refine ⟨⟨e04 _ _ ho, by rw [List.length_map]; omega⟩, fun hno => ?_⟩
      rw [List.take_length] at hno
      have hr : (rs.all fun p => b p.1 p.2) = true := by
        rw [List.all_eq_true]
        intro x hx2
        cases hb : b x.1 x.2 with
        | true => rfl
        | false => exact absurd rfl (hno _ (List.mem_map.mpr ⟨x, hx2, by rw [hb]⟩))
      rw [← hr]
      exact q H' (e13.trans e4)
theorem ev_tab {a : Addr} {i j l : Nat} {s e n : Nat} {t : Nat → Nat → Int} (h1 : σ[i]? = some (some (.ref a))) (h2 : σ[j]? = some (some (.int (s : Int)))) (h3 : σ[l]? = some (some (.int (e : Int)))) (hd : DAt P w K H a (tabR (rgA n) t)) (hse : s < e) (hen : e ≤ n) : Ev (tDGetX P w K (tVar i) (tTup (tCons (tVar j) (tCons (tVar l) tNil)))) σ H (.int (t s e)) :=
  ev_dgxU (ev_var h1) (eu_tup (ea2 (ev_var h2) (ev_var h3)) (by show 2 ≤ 100000; decide)) (key_v s e) hd (tab_some (mem_all.mpr ⟨hse, hen⟩))
def spLow (P : Program) (w : World) (K : PySem.W.Frag) (Pt : Addr) : Sp := fun vs H Q _ => ∃ (l p : Addr) (s e : Nat) (ws : List Int) (t : Nat → Nat → Int), vs = [.ref l, .ref p, .int (s : Int), .int (e : Int)] ∧ SqL K H l ((sumsL ws).map V.int) ∧ DAt P w K H p (tabR (rgA ws.length) t) ∧ s < e ∧ e ≤ ws.length ∧ ws.length ≤ 100 ∧ H Pt = some (TabX Pt) ∧ RetV (.bl (lowB ws t s e)) H Q
theorem ok_is_range_low_enough {f c Pt : Addr} {fd : FuncData} {k : Nat} (F : FunT K "is_range_low_enough" "is_range_low_enough" s_is_range_low_enough f fd c) (TB : GxR.TabB base mg c Pt) (B : Bs mg) (B2 : Bs2 mg) (C_parted_values : Cal P w K mg base "parted_values" 1 ["table", "start", "end"] (spParts P w K)) :
    FnOk P w K mg base CX0 (k + 8) f fd ["sums", "table", "start", "end"] (spLow P w K Pt) := by
  refine F.ok sc_is_range_low_enough (fun vs H Q E h => ?_) (fun A outer s H vs Q E hr h => ?_)
  · obtain ⟨l, p, a, e, ws, t, rfl, _⟩ := h
    rfl
  · obtain ⟨l, p, a, e, ws, t, rfl, hs, hd, hse, hen, hl, tab, q⟩ := h
    have hu := units1 hr
    refine ⟨_, (pss_cons (ps_if (pt_cmpR op_eq (pv 3) (pe_op op_add (pv 2) pe_int) (nomark _)) (pss_one (ps_ret (pe_cmpR op_le (pe_dgx (P := P) (w := w) (K := K) ⟨rfl, rfl, rfl⟩ hu (pv 1) (pe_tup (pa_cons (pv 2) (pa_cons (pv 3) pa_nil))) (fun _ _ => rfl)) pe_int (nomark _)))) pss_nil)
      (pss_cons (ps_set (i := 4) sc_is_range_low_enough.nd rfl (Or.inr rfl) (pe_op op_sub (pe_ix ix_list (pv 0) (pv 3) (fun _ _ => rfl)) (pe_ix ix_list (pv 0) (pv 2) (fun _ _ => rfl))))
      (pss_one (ps_ret (pe_allG (k := 0) (pgx_gen (g := (gName 0)) (N' := ["parted", "table", "weight", "start", "end"]) (cm := [none, some 1, some 4, some 2, some 3]) (own := [0]) (k0 := 0) (k := 0) (hr.mono (by omega)) TB rfl (capOk_by (N := ["sums", "table", "start", "end", "weight"]) (sc := defScope s_is_range_low_enough) (by decide +kernel)) (pi_list (pe_callC C_parted_values (hr.mono (by omega)) (by rfl) (pa_cons (pv 1) (pa_cons (pv 2) (pa_cons (pv 3) pa_nil))))) (fun _ _ _ _ _ _ _ _ hr => (pg_name (i := 0) (show List.Nodup (["parted", "table", "weight", "start", "end"] : List Str) by decide +kernel) rfl (Or.inl rfl))) (fun _ _ _ _ _ _ _ _ hr => pts_nil) (fun _ _ _ _ _ _ _ _ hr => (pe_cmpR op_le (pe_dgx (P := P) (w := w) (K := K) ⟨rfl, rfl, rfl⟩ (units1 hr) (pv 1) (pe_tup (pa_cons (pv 3) (pa_cons (pv 4) pa_nil))) (fun _ _ => rfl)) (pe_op op_add (pv 2) (pv 0)) (nomark _)))) (hr.mono (by omega)) (by rfl) B2.all))))), ?_⟩
    unfold lowB at q
    refine q_when (b := decide (e = a + 1)) (et_is (et_test (ev_eq (ev_var (v := .int (e : Int)) rfl) (ev_add (ev_var (v := .int (a : Int)) rfl) ev_c))) (decide_eq_decide.mpr (by omega))) (fun hb H1 e1 => ?_) (fun hb H1 e1 => ?_)
    · rw [if_pos (of_decide_eq_true hb)] at q
      exact s_ret (ev_op (ev_tab rfl rfl rfl (hd.ext e1) hse hen) ev_c rv_I0) fun H2 e2 => q H2 (e1.trans e2)
    · rw [if_neg (of_decide_eq_false hb)] at q
      have hlen := sums_len ws
      refine q_asg (v := .int (sm ws a e)) (ev_is (ev_sub (ev_op (ev_var rfl) (ev_var (v := .int (e : Int)) rfl) (rv_ixL (ex_l e1 hs) (atI_at rfl (by omega)))) (ev_op (ev_var rfl) (ev_var (v := .int (a : Int)) rfl) (rv_ixL (ex_l e1 hs) (atI_at rfl (by omega))))) (by rw [sums_get (by omega), sums_get (by omega)]; rfl)) fun H2 e2 => ?_
      have e02 := e1.trans e2
      refine s_ret (ev_allNL (K := K) (fun x => decide (t a e ≤ sm ws a e + x)) (xs := partsT t a e) (el_call (ea3 (ev_var rfl) (ev_var rfl) (ev_var rfl)) fun H3 e3 Q q E => ⟨p, a, e, rgA ws.length, t, rfl, hd.ext (e02.trans e3), hse, by omega, fun k2 h1 h2 => ⟨mem_all.mpr ⟨by omega, by omega⟩, mem_all.mpr ⟨by omega, by omega⟩⟩, q⟩) (by rw [partsT_len]; omega) (e02 _ _ tab) (fun x => rfl) fun x hx H3 e3 => ?_) fun H3 e3 => q H3 (e02.trans e3)
      exact ev_op (ev_tab rfl rfl rfl (hd.ext (e02.trans e3)) hse hen) (ev_add (ev_var rfl) (ev_var rfl)) rv_I0
def showB (ws : List Int) (t : Nat → Nat → Int) (x : Int) : Bool := decide (t 0 ws.length = x) && (rgA ws.length).all fun p => lowB ws t p.1 p.2
def spShows (P : Program) (w : World) (K : PySem.W.Frag) (P1 P2 : Addr) : Sp := fun vs H Q _ => ∃ (l p : Addr) (ws : List Int) (x : Int) (t : Nat → Nat → Int), vs = [.ref l, .int x, .ref p] ∧ SqL K H l (ws.map V.int) ∧ DAt P w K H p (tabR (rgA ws.length) t) ∧ 1 ≤ ws.length ∧ ws.length ≤ 100 ∧ H P1 = some (TabX P1) ∧ H P2 = some (TabX P2) ∧ RetV (.bl (showB ws t x)) H Q
theorem ok_shows_least {f c P1 P2 : Addr} {fd : FuncData} {k : Nat} (F : FunT K "shows_least" "shows_least" s_shows_least f fd c) (TB : GxR.TabB base mg c P2) (B : Bs mg) (B2 : Bs2 mg) (C_running_sums : Cal P w K mg base "running_sums" 1 ["weights"] (spSums K)) (C_is_range_low_enough : Cal P w K mg base "is_range_low_enough" 8 ["sums", "table", "start", "end"] (spLow P w K P1)) :
    FnOk P w K mg base CX0 (k + 13) f fd ["weights", "cost", "table"] (spShows P w K P1 P2) := by
  refine F.ok sc_shows_least (fun vs H Q E h => ?_) (fun A outer s H vs Q E hr h => ?_)
  · obtain ⟨l, p, ws, x, t, rfl, _⟩ := h
    rfl
  · obtain ⟨l, p, ws, x, t, rfl, hs, hd, h1, hl, tab1, tab2, q⟩ := h
    have hu := units1 hr
    refine ⟨_, (pss_cons (ps_set (i := 3) sc_shows_least.nd rfl (Or.inl rfl) (pe_tup (pa_cons pe_int (pa_cons (pe_callB call_len_seq (by rfl) B.len PySem.boot_len (pa_cons (pv 0) pa_nil)) pa_nil))))
      (pss_cons (ps_if (PW.pt (pw_or (pt_cmp (pc_dnotinX (P := P) (w := w) (K := K) ⟨rfl, rfl, rfl⟩ hu (pv 3) (pv 2))) (pw_or1 (pt_cmpR op_ne (pe_dgx (P := P) (w := w) (K := K) ⟨rfl, rfl, rfl⟩ hu (pv 2) (pv 3) (fun _ _ => rfl)) (pv 1) (nomark _))))) (pss_one (ps_ret pe_bl)) pss_nil)
      (pss_cons (ps_set (i := 4) sc_shows_least.nd rfl (Or.inr rfl) (pe_callC C_running_sums (hr.mono (by omega)) (by rfl) (pa_cons (pv 0) pa_nil)))
      (pss_one (ps_ret (pe_allG (k := 8) (pgx_gen (g := (gTup K 2 (gCons (gName 0) (gCons (gName 1) gNil)))) (N' := ["start", "end", "sums", "table"]) (cm := [none, none, some 4, some 2]) (own := [0, 1]) (k0 := 0) (k := 8) (hr.mono (by omega)) TB rfl (capOk_by (N := ["weights", "cost", "table", "whole", "sums"]) (sc := defScope s_shows_least) (by decide +kernel)) (pi_dX (P := P) (w := w) (K := K) ⟨rfl, rfl, rfl⟩ (pv 2)) (fun _ _ _ _ _ _ _ _ hr => (pg_tup rfl (pgs_cons (pg_name (i := 0) (show List.Nodup (["start", "end", "sums", "table"] : List Str) by decide +kernel) rfl (Or.inl rfl)) (pgs_cons (pg_name (i := 1) (show List.Nodup (["start", "end", "sums", "table"] : List Str) by decide +kernel) rfl (Or.inl rfl)) pgs_nil)))) (fun _ _ _ _ _ _ _ _ hr => pts_nil) (fun _ _ _ _ _ _ _ _ hr => (pe_callC C_is_range_low_enough (hr.mono (by omega)) (by rfl) (pa_cons (pv 2) (pa_cons (pv 3) (pa_cons (pv 0) (pa_cons (pv 1) pa_nil))))))) (hr.mono (by omega)) (by rfl) B2.all)))))), ?_⟩
    unfold showB at q
    refine q_asgU (xs := [.int ((0 : Nat) : Int), .int (ws.length : Int)]) (eu_tup (ea2 ev_c (len_is (ev_var rfl) hs)) (by show 2 ≤ 100000; decide)) fun pw H1 hpw e1 hw1 => ?_
    have hin := mem_all.mpr ⟨show 0 < ws.length by omega, Nat.le_refl ws.length⟩
    have hv := tab_some (t := t) hin
    refine q_when (b := !decide (t 0 ws.length = x)) (et_is (et_or (a := false) (b := !decide (t 0 ws.length = x)) (et_is (et_test (ev_dnotinX (k := key 0 ws.length) (ev_var rfl) (ev_var rfl) (hd.ext e1) (st_of hw1))) (by rw [hv]; rfl)) fun _ => et_test (ev_ne (ev_dgx (k := key 0 ws.length) (ev_var rfl) (ev_var rfl) (hd.ext e1) (st_of hw1) hv) (ev_var (v := .int x) rfl))) rfl) (fun hb H2 e2 => ?_) (fun hb H2 e2 => ?_)
    · have hb2 : decide (t 0 ws.length = x) = false := by simpa using hb
      rw [hb2, Bool.false_and] at q
      exact s_ret ev_c fun H3 e3 => q H3 ((e1.trans e2).trans e3)
    · have hb2 : decide (t 0 ws.length = x) = true := by simpa using hb
      rw [hb2, Bool.true_and] at q
      have e02 := e1.trans e2
      refine q_asgL (xs := (sumsL ws).map V.int) (el_call (ea1 (ev_var rfl)) fun H3 e3 Q q E => ⟨l, ws, rfl, ex_l (e02.trans e3) hs, by omega, q⟩) fun ps H3 hps e3 h3 => ?_
      have e03 := e02.trans e3
      refine s_ret (ev_allT (P := P) (w := w) (K := K) (fun a e => lowB ws t a e) (ev_var rfl) (hd.ext e03) (by have := rgA_len hl; omega) (e03 _ _ tab2) (fun x y => rfl) fun r hr2 H4 e4 => ?_) fun H4 e4 => q H4 (e03.trans e4)
      have hm := mem_all.mp hr2
      exact ev_call (ea_cons (ev_var rfl) (ea3 (ev_var rfl) (ev_var rfl) (ev_var rfl))) fun H5 e5 Q q E => ⟨ps, p, r.1, r.2, ws, t, rfl, sq_of ((e4.trans e5) _ _ h3), hd.ext ((e03.trans e4).trans e5), hm.1, hm.2, hl, ((e03.trans e4).trans e5) _ _ tab1, q⟩
end
end K07
set_option Elab.async false
set_option linter.all false
set_option maxRecDepth 100000
set_option maxHeartbeats 4000000
/-! Ranges with a step above 0. -/
namespace KV
open PySem PySem.Spec PyProof.Rows L2 StX GX KC KQ KW Evl
/-- how many parts of c make up n -/
def nb (n c : Nat) : Nat := (n + c - 1) / c
theorem nb_lt {n c i : Nat} (hc : 1 ≤ c) (h : i < nb n c) : i * c < n := by
  unfold nb at h
  have := (Nat.le_div_iff_mul_le (by omega)).mp (show i + 1 ≤ (n + c - 1) / c by omega)
  rw [Nat.add_mul, Nat.one_mul] at this
  omega
theorem nb_ge {n c i : Nat} (hc : 1 ≤ c) (h : ¬ i < nb n c) : n ≤ i * c := by
  unfold nb at h
  have := (Nat.div_lt_iff_lt_mul (show 0 < c by omega)).mp (show (n + c - 1) / c < i + 1 by omega)
  rw [Nat.add_mul, Nat.one_mul] at this
  omega
theorem nb_le {n c : Nat} (hc : 1 ≤ c) : nb n c ≤ n := by
  by_cases h : n < nb n c
  · have := nb_lt hc h
    have h2 : n * 1 ≤ n * c := Nat.mul_le_mul_left _ hc
    omega
  · omega
theorem rgc_pos {n c : Nat} (hc : 1 ≤ c) (hc2 : c ≤ 100000) (hn : n ≤ 100000) : RgC 0 (n : Int) (c : Int) (nb n c) := by
  have hs : Builtin.Range.rangeSize 0 (n : Int) (c : Int) = ((nb n c : Nat) : Int) := by
    rw [rangeSize_pos (by omega) (by omega)]
    unfold nb
    have : ((n : Int) + (c : Int) - 1) = ((n + c - 1 : Nat) : Int) := by omega
    rw [this]
    push_cast
    rfl
  have hb := nb_le (n := n) hc
  refine ⟨by omega, by omega, ?_, hs⟩
  unfold Builtin.Range.small
  rw [hs]
  simp only [Builtin.Range.rangeFitsLong, Bool.and_eq_true, Bool.or_eq_true, decide_eq_true_eq]
  refine ⟨⟨⟨⟨?_, ?_⟩, ?_⟩, ?_⟩, Or.inr ?_⟩
  · omega
  · omega
  · omega
  · omega
  · rw [if_pos (by omega), decide_eq_true (by omega), decide_eq_true (by omega)]
    rfl
section
variable {K : PySem.W.Frag} {σ : L2.St} {H H' : Hp} {ta tb te : TE} {t : TA} {D : Ends} {tu tz : TS}
/-- for x in range(0, n, c) -/
theorem s_forR3 {j n c : Nat} (h : EvA t σ H [.int 0, .int (n : Int), .int (c : Int)]) (hc : 1 ≤ c) (hc2 : c ≤ 100000) (hn : n ≤ 100000) (Pv : Nat → L2.St → Hp → Prop) (h0 : ∀ H1, Ex H H1 → Pv 0 σ H1)
    (hs : ∀ (i : Nat) σ' H', i < nb n c → Pv i σ' H' → tu { D with nx := Pv (i + 1), ct := Pv (i + 1), bk := D.nx } (σ'.set j (some (.int ((i * c : Nat) : Int)))) H') (hd : ∀ σ' H', Pv (nb n c) σ' H' → D.nx σ' H') : tFor (iRng3 t) (gName j) tu D σ H :=
  h H (Ex.refl H) _ fun H1 e => ⟨0, (n : Int), (c : Int), nb n c, rfl, rgc_pos hc hc2 hn, fun i m σ' H' => m + i = nb n c ∧ Pv i σ' H', ⟨nb n c, by omega, h0 H1 e⟩, fun i m σ' H' ⟨hm, p⟩ => by
    by_cases hi : i < nb n c
    · right
      refine ⟨hi, fun σ2 H2 => (m - 1) + (i + 1) = nb n c ∧ Pv (i + 1) σ2 H2, fun σ2 H2 q => ⟨m - 1, by omega, q⟩, ?_⟩
      rintro x H2 ⟨rfl, rfl⟩
      have ex : (0 : Int) + (i : Nat) * (c : Int) = ((i * c : Nat) : Int) := by push_cast; omega
      have hmm : (m - 1) + (i + 1) = nb n c := by omega
      simp only [hmm, true_and]
      show tu _ (σ'.set j (some (.int ((0 : Int) + (i : Nat) * (c : Int))))) H2
      rw [ex]
      exact hs i σ' H2 hi p
    · left
      have : i = nb n c := by omega
      subst this
      exact ⟨Nat.le_refl _, hd σ' H' p⟩⟩
theorem q_forR3 {j n c : Nat} (h : EvA t σ H [.int 0, .int (n : Int), .int (c : Int)]) (hc : 1 ≤ c) (hc2 : c ≤ 100000) (hn : n ≤ 100000) (Pv : Nat → L2.St → Hp → Prop) (h0 : ∀ H1, Ex H H1 → Pv 0 σ H1)
    (hs : ∀ (i : Nat) σ' H', i < nb n c → Pv i σ' H' → tu { D with nx := Pv (i + 1), ct := Pv (i + 1), bk := tz D } (σ'.set j (some (.int ((i * c : Nat) : Int)))) H') (hd : ∀ σ' H', Pv (nb n c) σ' H' → tz D σ' H') : tSeq (tFor (iRng3 t) (gName j) tu) tz D σ H := s_forR3 (D := { D with nx := tz D }) h hc hc2 hn Pv h0 hs hd
/-- [f(x) for x in range(0, n, c)], where f makes a new list of ints -/
theorem ep_lcLL3 {j n c : Nat} {vs : List Nat} (f : Nat → List Int) (h : EvA t σ H [.int 0, .int (n : Int), .int (c : Int)]) (hc : 1 ≤ c) (hc2 : c ≤ 100000) (hn : n ≤ 40000) (hw : ∀ x, wipe ((wipe σ vs).set j (some x)) vs = wipe σ vs)
    (he : ∀ (i : Nat) H1, Ex H H1 → i < nb n c → EvL te ((wipe σ vs).set j (some (.int ((i * c : Nat) : Int)))) H1 ((f i).map V.int)) : EvP (tLc (iRng3 t) (gName j) tYes te vs) σ H fun v H' => ∃ p, v = .ref p ∧ H p = none ∧ LL H' p ((List.range (nb n c)).map f) := fun H1 e Q q =>
  h H1 e _ fun H2 e2 => ⟨0, (n : Int), (c : Int), nb n c, rfl, rgc_pos hc hc2 (by omega), fun Dl hD =>
    ⟨fun i m H' => m + i = nb n c ∧ Ex H2 H' ∧ LL H' Dl ((List.range i).map f), ⟨nb n c, by omega, Ex.new hD, [], upd_same, rfl, fun j r c hr => by simp at hr⟩, fun i m H' ⟨hm, e3, rs, h1, h2, h3⟩ => by
      have hle := nb_le (n := n) hc
      rw [List.length_map, List.length_range] at h2
      by_cases hi : i < nb n c
      · right
        refine ⟨hi, fun H' => (m - 1) + (i + 1) = nb n c ∧ Ex H2 H' ∧ LL H' Dl ((List.range (i + 1)).map f), fun H' q => ⟨m - 1, by omega, q⟩, ?_⟩
        rintro x H5 ⟨rfl, rfl⟩
        have ex : (0 : Int) + (i : Nat) * (c : Int) = ((i * c : Nat) : Int) := by push_cast; omega
        rw [ex]
        refine ⟨hw _, tt_yes ?_⟩
        refine he i H5 ((e.trans e2).trans e3) hi H5 (Ex.refl _) _ fun r H6 hr e6 h6 => ?_
        have hrD : r ≠ Dl := fun z => by rw [z, h1] at hr; cases hr
        refine ⟨rs.map V.ref, e6 _ _ h1, sz_lt (by rw [List.length_map]; omega), by omega, Ex.mut (e3.trans e6) hD, rs ++ [r], by rw [upd_same, List.map_append] <;> rfl, by rw [List.length_append, List.length_map, List.length_range, h2] <;> rfl, fun j r2 c2 hr2 hc2 => ?_⟩
        rw [List.range_succ, List.map_append] at hc2
        by_cases z : j < i
        · rw [List.getElem?_append_left (by omega)] at hr2
          rw [List.getElem?_append_left (by rw [List.length_map, List.length_range]; exact z)] at hc2
          have g5 := e6 _ _ (h3 j r2 c2 hr2 hc2)
          have hne : r2 ≠ Dl := fun y => by
            have g6 := h3 j r2 c2 hr2 hc2
            rw [y, h1] at g6
            have g7 := Option.some.inj g6
            injection g7 with g7
            cases rs with
            | nil => simp at hr2
            | cons a rs =>
              cases c2 with
              | nil => simp at g7
              | cons b c2 => simp at g7
          rw [upd_ne hne]
          exact g5
        · have hj : j = i := by
            have := (List.getElem?_eq_some_iff.mp hr2).1
            rw [List.length_append] at this
            simp at this
            omega
          subst hj
          rw [List.getElem?_append_right (by omega), h2, Nat.sub_self] at hr2
          rw [List.getElem?_append_right (by rw [List.length_map, List.length_range]; omega), List.length_map, List.length_range, Nat.sub_self] at hc2
          cases hr2
          cases hc2
          rw [upd_ne hrD]
          exact h6
      · left
        have hin : i = nb n c := by omega
        subst hin
        exact ⟨Nat.le_refl _, q _ H' (e2.trans e3) ⟨Dl, rfl, fresh_back (e.trans e2) hD, rs, h1, by rw [List.length_map, List.length_range]; exact h2, h3⟩⟩⟩⟩
theorem cutV_part (xs : List V) (i k : Nat) : cutV xs (some (i : Int)) (some ((i + k : Nat) : Int)) = (xs.drop i).take k := by
  unfold cutV
  rw [HT.sIx_nat, HT.sIx_nat]
  by_cases h : i ≤ xs.length
  · rw [Nat.min_eq_left h]
    by_cases h2 : i + k ≤ xs.length
    · rw [Nat.min_eq_left h2, show i + k - i = k by omega]
    · rw [Nat.min_eq_right (by omega), List.take_of_length_le (by rw [List.length_drop]; exact Nat.le_refl _), List.take_of_length_le (by rw [List.length_drop]; omega)]
  · rw [Nat.min_eq_right (show xs.length ≤ i + k by omega), Nat.min_eq_right (show xs.length ≤ i by omega), List.drop_eq_nil_of_le (Nat.le_refl _), List.drop_eq_nil_of_le (show xs.length ≤ i by omega)]
    simp
variable {tc : TE} {g : TG}
theorem el_callN2 {sp : Sp} {E : XK} {xs zs : List V} {x : V} (h1 : Ev ta σ H x) (h2 : EvL tb σ H xs) (hs : ∀ p H1, Ex H H1 → H1 p = some (.lst xs) → SpL sp ([x, .ref p] ++ []) H1 zs) : EvL (tCall sp [] E (tCons ta (tCons tb tNil))) σ H zs := fun H1 e Q q =>
  h1 H1 e _ fun H2 e2 => h2 H2 (e.trans e2) _ fun p H3 _ e3 hx => hs p H3 ((e.trans e2).trans e3) hx H3 (Ex.refl _) Q (fun p2 H4 hp2 e4 h4 => q p2 H4 (fresh_back (e2.trans e3) hp2) ((e2.trans e3).trans e4) h4) E
theorem el_callN3 {sp : Sp} {E : XK} {xs zs : List V} {x y : V} (h1 : Ev ta σ H x) (h2 : EvL tb σ H xs) (h3 : Ev tc σ H y) (hs : ∀ p H1, Ex H H1 → H1 p = some (.lst xs) → SpL sp ([x, .ref p, y] ++ []) H1 zs) : EvL (tCall sp [] E (tCons ta (tCons tb (tCons tc tNil)))) σ H zs := fun H1 e Q q =>
  h1 H1 e _ fun H2 e2 => h2 H2 (e.trans e2) _ fun p H3 _ e3 hx => h3 H3 ((e.trans e2).trans e3) _ fun H4 e4 => hs p H4 (((e.trans e2).trans e3).trans e4) (e4 _ _ hx) H4 (Ex.refl _) Q (fun p2 H5 hp2 e5 h5 => q p2 H5 (fresh_back ((e2.trans e3).trans e4) hp2) (((e2.trans e3).trans e4).trans e5) h5) E
/-- f(x, a new list, y) -/
theorem t_call3L {sp : Sp} {E : XK} {xs : List V} {x y : V} {Q : VK} (h1 : Ev ta σ H x) (h2 : EvL tb σ H xs) (h3 : Ev tc σ H y) (k : ∀ p H1, H p = none → Ex H H1 → H1 p = some (.lst xs) → sp ([x, .ref p, y] ++ []) H1 Q E) : tCall sp [] E (tCons ta (tCons tb (tCons tc tNil))) σ H Q :=
  h1 H (Ex.refl H) _ fun H2 e2 => h2 H2 e2 _ fun p H3 hp e3 hx => h3 H3 (e2.trans e3) _ fun H4 e4 => k p H4 (fresh_back e2 hp) ((e2.trans e3).trans e4) (e4 _ _ hx)
/-- f(x, a new list) -/
theorem t_call2L {sp : Sp} {E : XK} {xs : List V} {x : V} {Q : VK} (h1 : Ev ta σ H x) (h2 : EvL tb σ H xs) (k : ∀ p H1, H p = none → Ex H H1 → H1 p = some (.lst xs) → sp ([x, .ref p] ++ []) H1 Q E) : tCall sp [] E (tCons ta (tCons tb tNil)) σ H Q :=
  h1 H (Ex.refl H) _ fun H2 e2 => h2 H2 e2 _ fun p H3 hp e3 hx => k p H3 (fresh_back e2 hp) (e2.trans e3) hx
/-- f(a new list) -/
theorem t_call1L {sp : Sp} {E : XK} {xs : List V} {Q : VK} (h2 : EvL ta σ H xs) (k : ∀ p H1, H p = none → Ex H H1 → H1 p = some (.lst xs) → sp ([.ref p] ++ []) H1 Q E) : tCall sp [] E (tCons ta tNil) σ H Q :=
  h2 H (Ex.refl H) _ fun p H3 hp e3 hx => k p H3 hp e3 hx
end
end KV
set_option Elab.async false
set_option linter.all false
set_option maxRecDepth 100000
set_option maxHeartbeats 4000000
namespace K07
open PySem PySem.Spec PyProof.Rows L2 StX GX KC KQ KW Evl M07
theorem minL_snoc : ∀ (l : List Int) (p : Int), l ≠ [] → minL (l ++ [p]) = if p < minL l then p else minL l
  | [], _, h => absurd rfl h
  | [x], p, _ => by
    show (if minL [p] < x then minL [p] else x) = _
    rfl
  | x :: y :: r, p, _ => by
    have ih := minL_snoc (y :: r) p (by simp)
    show (if minL ((y :: r) ++ [p]) < x then minL ((y :: r) ++ [p]) else x) = if p < (if minL (y :: r) < x then minL (y :: r) else x) then p else (if minL (y :: r) < x then minL (y :: r) else x)
    rw [ih]
    generalize minL (y :: r) = m
    repeat' split
    all_goals omega
def bestV (l : List Int) : V := match l with
  | [] => .non
  | _ => .int (minL l)
theorem bestV_ne {l : List Int} (h : l ≠ []) : bestV l = .int (minL l) := by
  cases l with
  | nil => exact absurd rfl h
  | cons x r => rfl
theorem slice_sum (ws : List Int) (s z : Nat) : ((ws.drop s).take z).sum = sm ws s (s + z) := by
  unfold sm
  rw [List.take_add, List.sum_append]
  omega
section
variable {P : Program} {w : World} {K : PySem.W.Frag} {mg : Str → Option Value} {base : Heap} {σ : L2.St} {H H' : Hp} {ta tb te td tl : TE} {D : Ends}
theorem ev_sumN2 {ns : List Int} (h : EvL te σ H (ns.map V.int)) : Ev (tCB (rSum K) (tCons te tNil)) σ H (.int ns.sum) := fun H1 e Q q =>
  h H1 e _ fun p H2 hp e2 hx => ev_sumLa (K := K) (te := fun _ H Q => Q (.ref p) H) (σ := σ) (H := H2) (fun H3 e3 Q q => q H3 (Ex.refl _)) (sq_of hx) H2 (Ex.refl _) Q fun H3 e3 => q H3 (e2.trans e3)
theorem ev_slsum {l : Addr} {ws : List Int} {s z : Nat} {tl' th : TE} {y : Int} (h : Ev te σ H (.ref l)) (h1 : Ev tl' σ H (.int (s : Int))) (h2 : Ev th σ H (.int y)) (ey : y = ((s + z : Nat) : Int)) (hs : SqL K H l (ws.map V.int)) : Ev (tCB (rSum K) (tCons (tSl (rSlL K) te (tPart tl') (tPart th)) tNil)) σ H (.int (sm ws s (s + z))) := by
  subst ey
  rw [← slice_sum]
  refine ev_sumN2 ?_
  have := el_sl h (eo_some h1) (eo_some h2) hs
  rwa [KV.cutV_part, ← List.map_drop, ← List.map_take] at this
theorem ok_law_values {f : Addr} {fd : FuncData} {k : Nat} (F : Fun K "_law_values" "_law_values" s_law_values f fd) (B : Bs mg) : FnOk P w K mg base CX0 (k + 1) f fd ["weights"] (spValues P w K) := by
  refine F.ok sc_law_values (fun vs H Q E h => ?_) (fun cdv A outer s H vs Q E hr h => ?_)
  · obtain ⟨l, ws, rfl, _⟩ := h
    rfl
  · obtain ⟨l, ws, rfl, hs, h1, hl, q⟩ := h
    have hu := units1 hr
    refine ⟨_, (pss_cons (ps_set (i := 1) sc_law_values.nd rfl (Or.inl rfl) (pe_dnewX (P := P) (w := w) (K := K) ⟨rfl, rfl, rfl⟩))
      (pss_cons (ps_for PassesOwn.never rfl (pi_range2 (by rfl) B.range (pa_cons pe_int (pa_cons (pe_op op_add (pe_callB call_len_seq (by rfl) B.len PySem.boot_len (pa_cons (pv 0) pa_nil)) pe_int) pa_nil))) (pg_name (i := 2) sc_law_values.nd rfl (Or.inl rfl)) (pss_one (ps_for PassesOwn.never rfl (pi_range1 (by rfl) B.range (pa_cons (pe_op op_add (pe_op op_sub (pe_callB call_len_seq (by rfl) B.len PySem.boot_len (pa_cons (pv 0) pa_nil)) (pv 2)) pe_int) pa_nil)) (pg_name (i := 3) sc_law_values.nd rfl (Or.inl rfl)) (pss_cons (ps_set (i := 4) sc_law_values.nd rfl (Or.inl rfl) pe_non)
      (pss_cons (ps_for PassesOwn.never rfl (pi_range2 (by rfl) B.range (pa_cons (pe_op op_add (pv 3) pe_int) (pa_cons (pe_op op_add (pv 3) (pv 2)) pa_nil))) (pg_name (i := 5) sc_law_values.nd rfl (Or.inl rfl)) (pss_cons (ps_set (i := 6) sc_law_values.nd rfl (Or.inl rfl) (pe_op op_add (pe_dgx (P := P) (w := w) (K := K) ⟨rfl, rfl, rfl⟩ hu (pv 1) (pe_tup (pa_cons (pv 3) (pa_cons (pv 5) pa_nil))) (fun _ _ => rfl)) (pe_dgx (P := P) (w := w) (K := K) ⟨rfl, rfl, rfl⟩ hu (pv 1) (pe_tup (pa_cons (pv 5) (pa_cons (pe_op op_add (pv 3) (pv 2)) pa_nil))) (fun _ _ => rfl))))
      (pss_one (ps_if (PW.pt (pw_or (pt_cmpR op_isN (pv 4) pe_non (nomark _)) (pw_or1 (pt_cmpR op_lt (pv 6) (pv 4) (nomark _))))) (pss_one (ps_set (i := 4) sc_law_values.nd rfl (Or.inl rfl) (pv 6))) pss_nil))))
      (pss_one (ps_if (pt_cmpR op_isN (pv 4) pe_non (nomark _)) (pss_one (ps_dputX (P := P) (w := w) (K := K) ⟨rfl, rfl, rfl⟩ hu (pv 1) (pe_tup (pa_cons (pv 3) (pa_cons (pe_op op_add (pv 3) (pv 2)) pa_nil))) pe_int rfl)) (pss_one (ps_dputX (P := P) (w := w) (K := K) ⟨rfl, rfl, rfl⟩ hu (pv 1) (pe_tup (pa_cons (pv 3) (pa_cons (pe_op op_add (pv 3) (pv 2)) pa_nil))) (pe_op op_add (pv 4) (pe_callB (cr_sum rfl) (by rfl) B.sum (by decide +kernel) (pa_cons (pe_slice sl_list (pv 0) (po_some (pv 3)) (po_some (pe_op op_add (pv 3) (pv 2)))) pa_nil))) rfl)))))))))
      (pss_one (ps_ret (pv 1))))), ?_⟩
    obtain ⟨n, hn⟩ : ∃ n, n = ws.length := ⟨_, rfl⟩
    have hlen : ∀ {σ : L2.St} {H9 : Hp}, σ[0]? = some (some (.ref l)) → Ex H H9 → Ev (tCB (Evl.rLenS K) (tCons (tVar 0) tNil)) σ H9 (.int (n : Int)) := fun h e => ev_is (len_is (ev_var h) (ex_l e hs)) (by rw [hn])
    refine q_dnew (K := K) fun pt H1 hpt e1 hd1 => ?_
    refine q_forR2 (lo := 1) (n := ((n + 1 : Nat) : Int)) (ea2 ev_c (ev_is (ev_add (hlen rfl e1) ev_c) (by push_cast; rfl))) ⟨by decide, by decide, by omega, by omega⟩
      (fun i σ' H' => ∃ x y z v : Option V, ∃ u : Option V, σ' = [some (.ref l), some (.ref pt), u, x, y, z, v] ∧ Ex H H' ∧ DAt P w K H' pt (tabR (rg n i 0) (val ws)))
      (fun H4 e4 => ⟨none, none, none, none, none, rfl, e1.trans e4, hd1.ext e4⟩) ?_ ?_
    · rintro i σ' H4 hi ⟨x, y, z, v, u, rfl, ex4, hd4⟩
      have hin : i + 1 ≤ n := by omega
      refine s_forR1 (n := ((n - i : Nat) : Int)) (ea1 (ev_is (ev_add (ev_sub (hlen rfl ex4) (ev_var (v := .int ((1 : Int) + (i : Int))) rfl)) ev_c) (by congr 1; omega))) ⟨by omega, by omega⟩
        (fun j σ' H' => ∃ x y z v : Option V, σ' = [some (.ref l), some (.ref pt), some (.int ((1 : Int) + (i : Int))), x, y, z, v] ∧ Ex H H' ∧ DAt P w K H' pt (tabR (rg n i j) (val ws)))
        (fun H5 e5 => ⟨x, y, z, v, rfl, ex4.trans e5, hd4.ext e5⟩) ?_ ?_
      · rintro j σ' H5 hj ⟨x, y, z, v, rfl, ex5, hd5⟩
        have hj2 : j + (i + 1) ≤ n := by omega
        refine q_asg (v := .non) ev_c fun H6 e6 => ?_
        have ex6 := ex5.trans e6
        have hd6 := hd5.ext e6
        have hpl := parts_len ws j (j + i + 1)
        have hend : ∀ {σ : L2.St} {H9 : Hp}, σ[3]? = some (some (.int (j : Int))) → σ[2]? = some (some (.int ((1 : Int) + (i : Int)))) → Ev (tOp rAdd (tVar 3) (tVar 2)) σ H9 (.int ((j + i + 1 : Nat) : Int)) := fun h2 h3 => ev_is (ev_add (ev_var (v := .int (j : Int)) h2) (ev_var (v := .int ((1 : Int) + (i : Int))) h3)) (by congr 1; omega)
        refine q_forR2 (lo := ((j + 1 : Nat) : Int)) (n := ((j + i + 1 : Nat) : Int)) (ea2 (ev_is (ev_add (ev_var (v := .int (j : Int)) rfl) ev_c) (by push_cast; rfl)) (hend rfl rfl)) ⟨by omega, by omega, by omega, by omega⟩
          (fun m σ' H' => ∃ z v : Option V, σ' = [some (.ref l), some (.ref pt), some (.int ((1 : Int) + (i : Int))), some (.int (j : Int)), some (bestV ((parts ws j (j + i + 1)).take m)), z, v] ∧ Ex H6 H')
          (fun H7 e7 => ⟨z, v, rfl, e7⟩) ?_ ?_
        · rintro m σ' H7 hm ⟨z, v, rfl, ex7⟩
          have hmi : m < i := by omega
          have hk : ((j + 1 : Nat) : Int) + (m : Int) = ((j + 1 + m : Nat) : Int) := by push_cast; rfl
          rw [hk]
          have hd7 := hd6.ext ex7
          have g1 := tab_some (t := val ws) (rs := rg n i j) (s := j) (e := j + 1 + m) (mem_rg.mpr (.inl ⟨by omega, by omega, by omega⟩))
          have g2 := tab_some (t := val ws) (rs := rg n i j) (s := j + 1 + m) (e := j + i + 1) (mem_rg.mpr (.inl ⟨by omega, by omega, by omega⟩))
          have hget := parts_get (ws := ws) (s := j) (e := j + i + 1) (j := m) (by omega)
          obtain ⟨p, hp⟩ : ∃ p, p = val ws j (j + 1 + m) + val ws (j + 1 + m) (j + i + 1) := ⟨_, rfl⟩
          rw [← hp] at hget
          refine q_asg (v := .int p) (ev_is (ev_add (ev_dgxU (ev_var rfl) (eu_tup (ea2 (ev_var rfl) (ev_var rfl)) (by show 2 ≤ 100000; decide)) (key_v j (j + 1 + m)) hd7 g1) (ev_dgxU (ev_var rfl) (eu_tup (ea2 (ev_var rfl) (hend rfl rfl)) (by show 2 ≤ 100000; decide)) (key_v (j + 1 + m) (j + i + 1)) hd7 g2)) (by rw [hp])) fun H8 e8 => ?_
          have htk : (parts ws j (j + i + 1)).take (m + 1) = (parts ws j (j + i + 1)).take m ++ [p] := by
            have hlt : m < (parts ws j (j + i + 1)).length := by omega
            rw [← List.take_append_getElem hlt]
            rw [List.getD_eq_getElem?_getD, List.getElem?_eq_getElem hlt] at hget
            exact congrArg _ (congrArg (fun x => [x]) hget)
          rw [htk]
          by_cases z0 : (parts ws j (j + i + 1)).take m = []
          · rw [z0]
            exact s_when (b := true) (et_is (et_or (a := true) (b := true) (et_is (et_test (ev_isN (ev_var rfl) ev_c)) rfl) fun z => by cases z) rfl) (fun _ H9 e9 => s_asg (v := .int p) (ev_var rfl) fun H10 e10 => ⟨_, _, rfl, ((ex7.trans e8).trans e9).trans e10⟩) (fun z => by cases z)
          · rw [bestV_ne z0, bestV_ne (by simp), minL_snoc _ _ z0]
            refine s_when (b := decide (p < minL ((parts ws j (j + i + 1)).take m))) (et_is (et_or (a := false) (b := decide (p < minL ((parts ws j (j + i + 1)).take m))) (et_is (et_test (ev_isN (ev_var rfl) ev_c)) rfl) fun _ => et_test (ev_lt (ev_var rfl) (ev_var rfl))) (Bool.false_or _)) (fun hb H9 e9 => ?_) (fun hb H9 e9 => ?_)
            · rw [if_pos (of_decide_eq_true hb)]
              exact s_asg (v := .int p) (ev_var rfl) fun H10 e10 => ⟨_, _, rfl, ((ex7.trans e8).trans e9).trans e10⟩
            · rw [if_neg (of_decide_eq_false hb)]
              exact ⟨_, _, rfl, (ex7.trans e8).trans e9⟩
        · rintro σ' H7 ⟨z, v, rfl, ex7⟩
          have hm : (((j + i + 1 : Nat) : Int) - ((j + 1 : Nat) : Int)).toNat = i := by omega
          rw [hm, List.take_of_length_le (by omega)]
          have hd7 := hd6.ext ex7
          have hno : (j, j + i + 1) ∉ rg n i j := by rw [mem_rg]; omega
          have hln : (tabR (rg n i j) (val ws)).length < 100000 := by rw [tab_len]; exact rg_len2 (by omega) (by omega) (by omega)
          by_cases z0 : parts ws j (j + i + 1) = []
          · have hi0 : i = 0 := by rw [z0, List.length_nil] at hpl; omega
            subst hi0
            rw [z0]
            refine s_if (b := true) (et_is (et_test (ev_isN (ev_var rfl) ev_c)) rfl) (fun _ H8 e8 => ?_) (fun z => by cases z)
            refine s_dputU (k := key j (j + 0 + 1)) (v := .int (val ws j (j + 0 + 1))) (ev_is ev_c (by rw [val_one (by omega)])) (ev_var rfl) (eu_tup (ea2 (ev_var rfl) (hend rfl rfl)) (by show 2 ≤ 100000; decide)) (key_v _ _) (hd7.ext e8) hln fun H9 H10 e9 hd10 hk10 => ?_
            rw [tab_put hno, ← rg_snoc] at hd10
            exact ⟨_, _, _, _, rfl, ex_but (((ex6.trans ex7).trans e8).trans e9) hpt hk10, hd10⟩
          · have hi0 : i ≠ 0 := fun z => by
              subst z
              exact z0 (List.length_eq_zero_iff.mp (by omega))
            rw [bestV_ne z0]
            refine s_if (b := false) (et_is (et_test (ev_isN (ev_var rfl) ev_c)) rfl) (fun z => by cases z) (fun _ H8 e8 => ?_)
            have hv : val ws j (j + i + 1) = minL (parts ws j (j + i + 1)) + sm ws j (j + (i + 1)) := by
              rw [val_up (by omega), Int.add_comm]
              rfl
            refine s_dputU (k := key j (j + i + 1)) (v := .int (val ws j (j + i + 1))) (ev_is (ev_add (ev_var (v := .int (minL (parts ws j (j + i + 1)))) rfl) (ev_slsum (s := j) (z := i + 1) (ev_var rfl) (ev_var rfl) (hend rfl rfl) rfl (ex_l ((ex6.trans ex7).trans e8) hs))) (by rw [hv])) (ev_var rfl) (eu_tup (ea2 (ev_var rfl) (hend rfl rfl)) (by show 2 ≤ 100000; decide)) (key_v _ _) (hd7.ext e8) hln fun H9 H10 e9 hd10 hk10 => ?_
            rw [tab_put hno, ← rg_snoc] at hd10
            exact ⟨_, _, _, _, rfl, ex_but (((ex6.trans ex7).trans e8).trans e9) hpt hk10, hd10⟩
      · rintro σ' H5 ⟨x, y, z, v, rfl, ex5, hd5⟩
        rw [Int.toNat_natCast, ← rg_next] at hd5
        exact ⟨_, _, _, _, _, rfl, ex5, hd5⟩
    · rintro σ' H4 ⟨x, y, z, v, u, rfl, ex4, hd4⟩
      have e9 : (((n + 1 : Nat) : Int) - 1).toNat = n := by omega
      rw [e9] at hd4
      refine s_ret (ev_var rfl) fun H5 e5 => q pt H5 hpt (ex4.trans e5) ?_
      rw [← hn]
      exact hd4.ext e5
end
end K07
set_option Elab.async false
set_option linter.all false
set_option maxRecDepth 100000
set_option maxHeartbeats 4000000
namespace K07
open PySem PySem.Spec PyProof.Rows L2 StX GX KC KQ KW Evl M07
theorem show_false {ws : List Int} {t : Nat → Nat → Int} {x : Int} {s e : Nat} (h1 : s < e) (h2 : e ≤ ws.length) (h : lowB ws t s e = false) : showB ws t x = false := by
  unfold showB
  rw [List.all_eq_false.mpr ⟨(s, e), mem_all.mpr ⟨h1, h2⟩, by rw [h]; exact Bool.false_ne_true⟩, Bool.and_false]
theorem show_all {ws : List Int} {t : Nat → Nat → Int} {x : Int} (h : ∀ s e, s < e → e ≤ ws.length → lowB ws t s e = true) : showB ws t x = decide (t 0 ws.length = x) := by
  unfold showB
  rw [List.all_eq_true.mpr fun p hp => h p.1 p.2 (mem_all.mp hp).1 (mem_all.mp hp).2, Bool.and_true]
theorem low_two {ws : List Int} {t : Nat → Nat → Int} {s e : Nat} (h : s + 1 < e) (hk : ∀ k, k < e - s - 1 → t s e ≤ sm ws s e + (t s (s + 1 + k) + t (s + 1 + k) e)) : lowB ws t s e = true := by
  unfold lowB
  rw [if_neg (by omega), List.all_eq_true]
  intro y hy
  obtain ⟨k, hk2, rfl⟩ := List.mem_map.mp hy
  exact decide_eq_true (hk k (List.mem_range.mp hk2))
theorem low_no {ws : List Int} {t : Nat → Nat → Int} {s e k : Nat} (hk : k < e - s - 1) (h : ¬ t s e ≤ sm ws s e + (t s (s + 1 + k) + t (s + 1 + k) e)) : lowB ws t s e = false := by
  unfold lowB
  rw [if_neg (by omega), List.all_eq_false]
  exact ⟨_, List.mem_map.mpr ⟨k, List.mem_range.mpr hk, rfl⟩, by rw [decide_eq_false h]; exact Bool.false_ne_true⟩
section
variable {P : Program} {w : World} {K : PySem.W.Frag} {mg : Str → Option Value} {base : Heap} {σ : L2.St} {H H' : Hp} {ta tb te td tl : TE} {D : Ends}
def spJudged (P : Program) (w : World) (K : PySem.W.Frag) : Sp := fun vs H Q _ => ∃ (l p : Addr) (ws : List Int) (x : Int) (t : Nat → Nat → Int), vs = [.ref l, .int x, .ref p] ∧ SqL K H l (ws.map V.int) ∧ DAt P w K H p (tabR (rgA ws.length) t) ∧ 1 ≤ ws.length ∧ ws.length ≤ 100 ∧ RetV (.bl (showB ws t x)) H Q
theorem ok_law_judged {f : Addr} {fd : FuncData} {k : Nat} (F : Fun K "_law_judged" "_law_judged" s_law_judged f fd) (B : Bs mg) : FnOk P w K mg base CX0 (k + 1) f fd ["weights", "price", "table"] (spJudged P w K) := by
  refine F.ok sc_law_judged (fun vs H Q E h => ?_) (fun cdv A outer s H vs Q E hr h => ?_)
  · obtain ⟨l, p, ws, x, t, rfl, _⟩ := h
    rfl
  · obtain ⟨l, p, ws, x, t, rfl, hs, hd, h1, hl, q⟩ := h
    have hu := units1 hr
    refine ⟨_, (pss_cons (ps_set (i := 3) sc_law_judged.nd rfl (Or.inl rfl) (pe_callB call_len_seq (by rfl) B.len PySem.boot_len (pa_cons (pv 0) pa_nil)))
      (pss_cons (ps_for PassesOwn.never rfl (pi_range1 (by rfl) B.range (pa_cons (pv 3) pa_nil)) (pg_name (i := 4) sc_law_judged.nd rfl (Or.inl rfl)) (pss_cons (ps_if (pt_cmpR op_gt (pe_dgx (P := P) (w := w) (K := K) ⟨rfl, rfl, rfl⟩ hu (pv 2) (pe_tup (pa_cons (pv 4) (pa_cons (pe_op op_add (pv 4) pe_int) pa_nil))) (fun _ _ => rfl)) pe_int (nomark _)) (pss_one (ps_ret pe_bl)) pss_nil)
      (pss_one (ps_for PassesOwn.never rfl (pi_range2 (by rfl) B.range (pa_cons (pe_op op_add (pv 4) pe_int) (pa_cons (pe_op op_add (pv 3) pe_int) pa_nil))) (pg_name (i := 5) sc_law_judged.nd rfl (Or.inl rfl)) (pss_one (ps_for PassesOwn.never rfl (pi_range2 (by rfl) B.range (pa_cons (pe_op op_add (pv 4) pe_int) (pa_cons (pv 5) pa_nil))) (pg_name (i := 6) sc_law_judged.nd rfl (Or.inl rfl)) (pss_one (ps_if (pt_cmpR op_gt (pe_dgx (P := P) (w := w) (K := K) ⟨rfl, rfl, rfl⟩ hu (pv 2) (pe_tup (pa_cons (pv 4) (pa_cons (pv 5) pa_nil))) (fun _ _ => rfl)) (pe_op op_add (pe_op op_add (pe_callB (cr_sum rfl) (by rfl) B.sum (by decide +kernel) (pa_cons (pe_slice sl_list (pv 0) (po_some (pv 4)) (po_some (pv 5))) pa_nil)) (pe_dgx (P := P) (w := w) (K := K) ⟨rfl, rfl, rfl⟩ hu (pv 2) (pe_tup (pa_cons (pv 4) (pa_cons (pv 6) pa_nil))) (fun _ _ => rfl))) (pe_dgx (P := P) (w := w) (K := K) ⟨rfl, rfl, rfl⟩ hu (pv 2) (pe_tup (pa_cons (pv 6) (pa_cons (pv 5) pa_nil))) (fun _ _ => rfl))) (nomark _)) (pss_one (ps_ret pe_bl)) pss_nil))))))))
      (pss_one (ps_ret (pe_cmpR op_eq (pe_dgx (P := P) (w := w) (K := K) ⟨rfl, rfl, rfl⟩ hu (pv 2) (pe_tup (pa_cons pe_int (pa_cons (pv 3) pa_nil))) (fun _ _ => rfl)) (pv 1) (nomark _)))))), ?_⟩
    obtain ⟨n, hn⟩ : ∃ n, n = ws.length := ⟨_, rfl⟩
    rw [← hn] at hd h1 hl
    refine q_asg (v := .int (n : Int)) (ev_is (len_is (ev_var rfl) hs) (by rw [hn])) fun H1 e1 => ?_
    refine q_forR1 (n := (n : Int)) (ea1 (ev_var rfl)) ⟨by omega, by omega⟩
      (fun i σ' H' => ∃ a b c : Option V, σ' = [some (.ref l), some (.int x), some (.ref p), some (.int (n : Int)), a, b, c] ∧ Ex H H' ∧ ∀ s, s < i → ∀ e, s < e → e ≤ n → lowB ws t s e = true)
      (fun H2 e2 => ⟨none, none, none, rfl, e1.trans e2, fun s h => absurd h (Nat.not_lt_zero _)⟩) ?_ ?_
    · rintro i σ' H2 hi ⟨a, b, c, rfl, e2, hall⟩
      have hi2 : i < n := by omega
      have hd2 := hd.ext e2
      refine q_when (b := decide (0 < t i (i + 1))) (et_test (ev_op (ev_dgxU (v := .int (t i (i + 1))) (ev_var rfl) (eu_tup (ea2 (ev_var (v := .int (i : Int)) rfl) (ev_is (ev_add (ev_var (v := .int (i : Int)) rfl) ev_c) (show V.int _ = .int ((i + 1 : Nat) : Int) by push_cast; rfl))) (by show 2 ≤ 100000; decide)) (key_v i (i + 1)) hd2 (tab_some (mem_all.mpr ⟨by omega, by omega⟩))) ev_c rv_I0)) (fun hb H3 e3 => ?_) (fun hb H3 e3 => ?_)
      · have hgt := of_decide_eq_true hb
        have hf : lowB ws t i (i + 1) = false := by
          unfold lowB
          rw [if_pos rfl]
          exact decide_eq_false (by omega)
        rw [show_false (by omega) (by omega) hf] at q
        exact s_ret ev_c fun H4 e4 => q H4 ((e2.trans e3).trans e4)
      · have hle := of_decide_eq_false hb
        have h0 : lowB ws t i (i + 1) = true := by
          unfold lowB
          rw [if_pos rfl]
          exact decide_eq_true (by omega)
        have e03 := e2.trans e3
        refine s_forR2 (lo := ((i + 2 : Nat) : Int)) (n := ((n + 1 : Nat) : Int)) (ea2 (ev_is (ev_add (ev_var (v := .int (i : Int)) rfl) ev_c) (by push_cast; rfl)) (ev_is (ev_add (ev_var (v := .int (n : Int)) rfl) ev_c) (by push_cast; rfl))) ⟨by omega, by omega, by omega, by omega⟩
          (fun j σ' H' => ∃ b c : Option V, σ' = [some (.ref l), some (.int x), some (.ref p), some (.int (n : Int)), some (.int (i : Int)), b, c] ∧ Ex H H' ∧ ∀ e, i < e → e < i + 2 + j → lowB ws t i e = true)
          (fun H4 e4 => ⟨b, c, rfl, e03.trans e4, fun e h1 h2 => by rw [show e = i + 1 by omega]; exact h0⟩) ?_ ?_
        · rintro j σ' H4 hj ⟨b, c, rfl, e4, hlow⟩
          obtain ⟨e, he⟩ : ∃ e, e = i + 2 + j := ⟨_, rfl⟩
          have hj2 : ((i + 2 : Nat) : Int) + (j : Int) = (e : Int) := by omega
          rw [hj2]
          have hen : e ≤ n := by omega
          refine s_forR2 (lo := ((i + 1 : Nat) : Int)) (n := (e : Int)) (ea2 (ev_is (ev_add (ev_var (v := .int (i : Int)) rfl) ev_c) (by push_cast; rfl)) (ev_var rfl)) ⟨by omega, by omega, by omega, by omega⟩
            (fun m σ' H' => ∃ c : Option V, σ' = [some (.ref l), some (.int x), some (.ref p), some (.int (n : Int)), some (.int (i : Int)), some (.int (e : Int)), c] ∧ Ex H H' ∧ ∀ k, k < m → t i e ≤ sm ws i e + (t i (i + 1 + k) + t (i + 1 + k) e))
            (fun H5 e5 => ⟨c, rfl, e4.trans e5, fun k h => absurd h (Nat.not_lt_zero _)⟩) ?_ ?_
          · rintro m σ' H5 hm ⟨c, rfl, e5, hk⟩
            have hm2 : ((i + 1 : Nat) : Int) + (m : Int) = ((i + 1 + m : Nat) : Int) := by push_cast; rfl
            rw [hm2]
            have hd5 := hd.ext e5
            refine s_when (b := decide (sm ws i e + t i (i + 1 + m) + t (i + 1 + m) e < t i e)) (et_test (ev_op (ev_tab rfl rfl rfl hd5 (by omega) hen) (ev_add (ev_add (ev_is (ev_slsum (s := i) (z := e - i) (ev_var rfl) (ev_var rfl) (ev_var (v := .int (e : Int)) rfl) (by congr 1; omega) (ex_l e5 hs)) (by rw [show i + (e - i) = e by omega])) (ev_tab rfl rfl rfl hd5 (by omega) (by omega))) (ev_tab rfl rfl rfl hd5 (by omega) hen)) rv_I0)) (fun hb H6 e6 => ?_) (fun hb H6 e6 => ?_)
            · have hgt := of_decide_eq_true hb
              rw [show_false (s := i) (e := e) (by omega) (by omega) (low_no (k := m) (by omega) (by omega))] at q
              exact s_ret ev_c fun H7 e7 => q H7 ((e5.trans e6).trans e7)
            · have hle2 := of_decide_eq_false hb
              refine ⟨_, rfl, e5.trans e6, fun k h => ?_⟩
              by_cases z : k = m
              · rw [z]; omega
              · exact hk k (by omega)
          · rintro σ' H5 ⟨c, rfl, e5, hk⟩
            refine ⟨_, _, rfl, e5, fun e2 h1 h2 => ?_⟩
            by_cases z : e2 = e
            · rw [z]
              exact low_two (by omega) fun k hk2 => hk k (by omega)
            · exact hlow e2 h1 (by omega)
        · rintro σ' H4 ⟨b, c, rfl, e4, hlow⟩
          refine ⟨_, _, _, rfl, e4, fun s hs2 e h1 h2 => ?_⟩
          by_cases z : s = i
          · rw [z] at h1 ⊢
            exact hlow e h1 (by omega)
          · exact hall s (by omega) e h1 h2
    · rintro σ' H2 ⟨a, b, c, rfl, e2, hall⟩
      rw [Int.toNat_natCast] at hall
      rw [show_all (fun s e h1 h2 => hall s (by omega) e h1 (by omega)), ← hn] at q
      exact s_ret (ev_eq (ev_dgxU (v := .int (t 0 n)) (ev_var rfl) (eu_tup (ea2 (ev_c (v := .int ((0 : Nat) : Int))) (ev_var (v := .int (n : Int)) rfl)) (by show 2 ≤ 100000; decide)) (key_v 0 n) (hd.ext e2) (tab_some (mem_all.mpr ⟨by omega, by omega⟩))) (ev_var (v := .int x) rfl)) fun H3 e3 => q H3 (e2.trans e3)
end
end K07
set_option Elab.async false
set_option linter.all false
set_option maxRecDepth 100000
set_option maxHeartbeats 4000000
namespace K07
open PySem PySem.Spec PyProof.Rows L2 StX GX KC KQ KW Evl M07
inductive SL {α : Type} (F : V → α → Prop) : List V → List α → Prop
  | nil : SL F [] []
  | snoc {xs : List V} {as : List α} {v : V} {a : α} : SL F xs as → F v a → SL F (xs ++ [v]) (as ++ [a])
theorem SL.mono {α : Type} {F G : V → α → Prop} (h : ∀ v a, F v a → G v a) {xs : List V} {as : List α} (s : SL F xs as) : SL G xs as := by
  induction s with
  | nil => exact .nil
  | snoc _ f ih => exact .snoc ih (h _ _ f)
theorem SL.len {α : Type} {F : V → α → Prop} {xs : List V} {as : List α} (s : SL F xs as) : xs.length = as.length := by
  induction s with
  | nil => rfl
  | snoc _ f ih => rw [List.length_append, List.length_append, ih]; rfl
theorem SL.last {α : Type} {F : V → α → Prop} {xs : List V} {as : List α} {a : α} (s : SL F xs (as ++ [a])) : ∃ ys v, xs = ys ++ [v] ∧ SL F ys as ∧ F v a := by
  generalize hb : as ++ [a] = bs at s
  cases s with
  | nil => simp at hb
  | @snoc ys cs v c s f =>
    obtain ⟨h1, h2⟩ := List.append_inj' hb rfl
    subst h1
    cases h2
    exact ⟨ys, v, rfl, s, f⟩
def ItemAt (H : Hp) (pf pw : Addr) (v : V) (it : Nat × Nat × List Int) : Prop := ∃ ta wa : Addr, v = .ref ta ∧ H ta = some (.tup [.int (it.1 : Int), .int (it.2.1 : Int), .ref wa]) ∧ H wa = some (.lst (it.2.2.map V.int)) ∧ ta ≠ pf ∧ ta ≠ pw ∧ wa ≠ pf ∧ wa ≠ pw
def WordAt (H : Hp) (pf pw : Addr) (v : V) (c : List Int) : Prop := ∃ wa : Addr, v = .ref wa ∧ H wa = some (.lst (c.map V.int)) ∧ wa ≠ pf ∧ wa ≠ pw
theorem ItemAt.ext {H H' : Hp} {pf pw : Addr} {v : V} {it : Nat × Nat × List Int} (e : Ex H H') (h : ItemAt H pf pw v it) : ItemAt H' pf pw v it := by
  obtain ⟨ta, wa, h1, h2, h3, h4⟩ := h
  exact ⟨ta, wa, h1, e _ _ h2, e _ _ h3, h4⟩
theorem ItemAt.putF {H : Hp} {pf pw : Addr} {v : V} {it : Nat × Nat × List Int} {o : HO} (h : ItemAt H pf pw v it) : ItemAt (upd H pf o) pf pw v it := by
  obtain ⟨ta, wa, h1, h2, h3, h4, h5, h6, h7⟩ := h
  exact ⟨ta, wa, h1, by rw [upd_ne h4]; exact h2, by rw [upd_ne h6]; exact h3, h4, h5, h6, h7⟩
theorem ItemAt.putW {H : Hp} {pf pw : Addr} {v : V} {it : Nat × Nat × List Int} {o : HO} (h : ItemAt H pf pw v it) : ItemAt (upd H pw o) pf pw v it := by
  obtain ⟨ta, wa, h1, h2, h3, h4, h5, h6, h7⟩ := h
  exact ⟨ta, wa, h1, by rw [upd_ne h5]; exact h2, by rw [upd_ne h7]; exact h3, h4, h5, h6, h7⟩
theorem WordAt.ext {H H' : Hp} {pf pw : Addr} {v : V} {c : List Int} (e : Ex H H') (h : WordAt H pf pw v c) : WordAt H' pf pw v c := by
  obtain ⟨wa, h1, h2, h3⟩ := h
  exact ⟨wa, h1, e _ _ h2, h3⟩
theorem WordAt.putF {H : Hp} {pf pw : Addr} {v : V} {c : List Int} {o : HO} (h : WordAt H pf pw v c) : WordAt (upd H pf o) pf pw v c := by
  obtain ⟨wa, h1, h2, h3, h4⟩ := h
  exact ⟨wa, h1, by rw [upd_ne h3]; exact h2, h3, h4⟩
theorem WordAt.putW {H : Hp} {pf pw : Addr} {v : V} {c : List Int} {o : HO} (h : WordAt H pf pw v c) : WordAt (upd H pw o) pf pw v c := by
  obtain ⟨wa, h1, h2, h3, h4⟩ := h
  exact ⟨wa, h1, by rw [upd_ne h4]; exact h2, h3, h4⟩
theorem words_LL {H : Hp} {pf pw p : Addr} {fs : List V} {cs : List (List Int)} (s : SL (WordAt H pf pw) fs cs) (hp : H p = some (.lst fs)) : LL H p cs := by
  have : ∃ rs : List Addr, fs = rs.map V.ref ∧ rs.length = cs.length ∧ ∀ (j : Nat) (r : Addr) (c : List Int), rs[j]? = some r → cs[j]? = some c → H r = some (.lst (c.map V.int)) := by
    clear hp
    induction s with
    | nil => exact ⟨[], rfl, rfl, fun j r c h => by simp at h⟩
    | @snoc xs as v a s f ih =>
      obtain ⟨rs, h1, h2, h3⟩ := ih
      obtain ⟨wa, hv, hw, _⟩ := f
      refine ⟨rs ++ [wa], by rw [h1, hv, List.map_append]; rfl, by rw [List.length_append, List.length_append, h2]; rfl, fun j r c hr hc => ?_⟩
      by_cases z : j < rs.length
      · rw [List.getElem?_append_left z] at hr
        rw [List.getElem?_append_left (by omega)] at hc
        exact h3 j r c hr hc
      · have hj : j = rs.length := by
          have := (List.getElem?_eq_some_iff.mp hr).1
          rw [List.length_append, List.length_singleton] at this
          omega
        subst hj
        rw [List.getElem?_append_right (Nat.le_refl _), Nat.sub_self] at hr
        rw [h2, List.getElem?_append_right (Nat.le_refl _), Nat.sub_self] at hc
        cases hr
        cases hc
        exact hw
  obtain ⟨rs, h1, h2, h3⟩ := this
  exact ⟨rs, by rw [hp, h1], h2, h3⟩
def wt (its : List (Nat × Nat × List Int)) : Nat := (its.map fun it => 2 * (it.2.1 - it.1) - 1).sum
theorem wt_snoc (its : List (Nat × Nat × List Int)) (it : Nat × Nat × List Int) : wt (its ++ [it]) = wt its + (2 * (it.2.1 - it.1) - 1) := by
  unfold wt
  rw [List.map_append, List.sum_append]
  simp
theorem wt_len : ∀ {its : List (Nat × Nat × List Int)}, (∀ it ∈ its, it.1 < it.2.1) → its.length ≤ wt its
  | [], _ => Nat.le_refl _
  | it :: r, h => by
    have h1 := wt_len (its := r) fun x hx => h x (List.mem_cons_of_mem _ hx)
    have h2 := h it List.mem_cons_self
    have : wt (it :: r) = (2 * (it.2.1 - it.1) - 1) + wt r := by simp [wt]
    rw [this, List.length_cons]
    omega
def restW (ws : List Int) (its : List (Nat × Nat × List Int)) : List (List Int) := its.reverse.flatMap fun it => wordsR ws it.1 it.2.1 it.2.2
theorem rest_snoc (ws : List Int) (its : List (Nat × Nat × List Int)) (it : Nat × Nat × List Int) : restW ws (its ++ [it]) = wordsR ws it.1 it.2.1 it.2.2 ++ restW ws its := by
  unfold restW
  rw [List.reverse_append]
  rfl
theorem snoc_cases {α : Type} {l : List α} (h : l ≠ []) : ∃ r a, l = r ++ [a] := ⟨_, _, (List.dropLast_concat_getLast h).symm⟩
section
variable {P : Program} {w : World} {K : PySem.W.Frag} {mg : Str → Option Value} {base : Heap} {σ : L2.St} {H H' : Hp} {ta tb tc te td tl : TE} {D : Ends} {tz : TS}
theorem ep_tupL {x y : V} {xs : List V} (h1 : Ev ta σ H x) (h2 : Ev tb σ H y) (h3 : EvL tc σ H xs) : EvP (tTup (tCons ta (tCons tb (tCons tc tNil)))) σ H fun v H' => ∃ p q, v = .ref p ∧ H' p = some (.tup [x, y, .ref q]) ∧ H' q = some (.lst xs) ∧ H p = none ∧ H q = none := fun H1 e Q k =>
  h1 H1 e _ fun H2 e2 => h2 H2 (e.trans e2) _ fun H3 e3 => h3 H3 ((e.trans e2).trans e3) _ fun q H4 hq e4 hx => ⟨by show 3 ≤ sizeLine; decide, fun p hp => by
    have e5 : Ex H4 (upd H4 p (.tup [x, y, .ref q])) := Ex.new hp
    exact k _ _ (((e2.trans e3).trans e4).trans e5) ⟨p, q, rfl, upd_same, e5 _ _ hx, fresh_back (((e.trans e2).trans e3).trans e4) hp, fresh_back ((e.trans e2).trans e3) hq⟩⟩
theorem s_appP {l : Addr} {xs : List V} {R : V → Hp → Prop} (hl : H l = some (.lst xs)) (ha : Ev ta σ H (.ref l)) (h : EvP te σ H R) (hz : xs.length < 100000) (k : ∀ v H1, Ex H H1 → R v H1 → D.nx σ (upd H1 l (.lst (xs ++ [v])))) :
    tDrop (tBM K "list" rAppend ta (tCons te tNil)) D σ H := ha H (Ex.refl H) _ fun H1 e1 =>
  ⟨Or.inl ⟨rfl, xs, sq_of (e1 l _ hl)⟩, h H1 e1 _ fun v H2 e2 hv => ⟨l, xs, v, rfl, rfl, e2 l _ (e1 l _ hl), sz_lt hz, k v H2 (e1.trans e2) hv⟩⟩
theorem q_appP {l : Addr} {xs : List V} {R : V → Hp → Prop} (hl : H l = some (.lst xs)) (ha : Ev ta σ H (.ref l)) (h : EvP te σ H R) (hz : xs.length < 100000) (k : ∀ v H1, Ex H H1 → R v H1 → tz D σ (upd H1 l (.lst (xs ++ [v])))) :
    tSeq (tDrop (tBM K "list" rAppend ta (tCons te tNil))) tz D σ H := s_appP (D := { D with nx := tz D }) hl ha h hz k
theorem ep_lst1 {R : V → Hp → Prop} (h : EvP te σ H R) : EvP (tLst (tCons te tNil)) σ H fun v H' => ∃ p y H2, v = .ref p ∧ Ex H H2 ∧ R y H2 ∧ H2 p = none ∧ H' = upd H2 p (.lst [y]) := fun H1 e Q k =>
  h H1 e _ fun y H2 e2 hy => ⟨by show 1 ≤ sizeLine; decide, fun p hp => k _ _ (e2.trans (Ex.new hp)) ⟨p, y, H2, rfl, e.trans e2, hy, hp, rfl⟩⟩
/-- a, b, c = xs.pop() -/
theorem q_pop3 {l p : Addr} {xs : List V} {i j m : Nat} {x y z : V} (hl : H l = some (.lst (xs ++ [.ref p]))) (ha : Ev ta σ H (.ref l)) (hp : H p = some (.tup [x, y, z])) (hne : p ≠ l)
    (k : ∀ H1, Ex H H1 → tz D (((σ.set i (some x)).set j (some y)).set m (some z)) (upd H1 l (.lst xs))) : tSeq (tAsg (tBM0 K "list" rPop ta) (gTup K 3 (gCons (gName i) (gCons (gName j) (gCons (gName m) gNil))))) tz D σ H :=
  ha H (Ex.refl H) _ fun H1 e1 => ⟨Or.inl ⟨rfl, _, sq_of (e1 l _ hl)⟩, ⟨l, xs ++ [.ref p], .ref p, rfl, rfl, e1 l _ hl, by simp, by
    rw [List.dropLast_concat]
    exact g_three (K := K) (st_of (by rw [upd_ne hne]; exact e1 _ _ hp)) (k H1 e1)⟩⟩
def spWords (K : PySem.W.Frag) : Sp := fun vs H Q _ => ∃ (l : Addr) (ws : List Int), vs = [.ref l] ∧ SqL K H l (ws.map V.int) ∧ 1 ≤ ws.length ∧ ws.length ≤ 100 ∧ ∀ p H2, H p = none → Ex H H2 → LL H2 p (wordsR ws 0 ws.length []) → Q (.ref p) H2
theorem ok_alphabetic_words {f : Addr} {fd : FuncData} {k : Nat} (F : Fun K "alphabetic_words" "alphabetic_words" s_alphabetic_words f fd) (B : Bs mg) (C_range_values : Cal P w K mg base "range_values" 2 ["weights"] (spValues P w K)) (C_range_cut : Cal P w K mg base "range_cut" 2 ["table", "start", "end"] (spCut P w K)) :
    FnOk P w K mg base CX0 (k + 3) f fd ["weights"] (spWords K) := by
  refine F.ok sc_alphabetic_words (fun vs H Q E h => ?_) (fun cdv A outer s H vs Q E hr h => ?_)
  · obtain ⟨l, ws, rfl, _⟩ := h
    rfl
  · obtain ⟨l, ws, rfl, hs, h1, hl, q⟩ := h
    refine ⟨_, (pss_cons (ps_if (pt_not (pt_truth (pv 0) (by intro _; rfl))) (pss_one (ps_ret (pe_lst pa_nil))) pss_nil)
      (pss_cons (ps_set (i := 1) sc_alphabetic_words.nd rfl (Or.inl rfl) (pe_callC C_range_values (hr.mono (by omega)) (by rfl) (pa_cons (pv 0) pa_nil)))
      (pss_cons (ps_set (i := 2) sc_alphabetic_words.nd rfl (Or.inl rfl) (pe_lst pa_nil))
      (pss_cons (ps_set (i := 3) sc_alphabetic_words.nd rfl (Or.inl rfl) (pe_lst (pa_cons (pe_tup (pa_cons pe_int (pa_cons (pe_callB call_len_seq (by rfl) B.len PySem.boot_len (pa_cons (pv 0) pa_nil)) (pa_cons (pe_lst pa_nil) pa_nil)))) pa_nil)))
      (pss_cons (ps_while PassesOwn.never (pt_truth (pv 3) (by intro _; rfl)) (pss_cons (ps_asg (pe_bm0 PySem.F.plainAttrs_list PySem.F.slot_list_pop PySem.F.type_list_pop mt_pop (pv 3)) (pg_tup rfl (pgs_cons (pg_name (i := 4) sc_alphabetic_words.nd rfl (Or.inl rfl)) (pgs_cons (pg_name (i := 5) sc_alphabetic_words.nd rfl (Or.inl rfl)) (pgs_cons (pg_name (i := 6) sc_alphabetic_words.nd rfl (Or.inl rfl)) pgs_nil)))))
      (pss_one (ps_if (pt_cmpR op_eq (pv 5) (pe_op op_add (pv 4) pe_int) (nomark _)) (pss_one (ps_expr (pe_bm PySem.F.plainAttrs_list PySem.F.slot_list_append PySem.F.type_list_append mt_append (pv 2) (pa_cons (pv 6) pa_nil)))) (pss_cons (ps_set (i := 7) sc_alphabetic_words.nd rfl (Or.inl rfl) (pe_callC C_range_cut (hr.mono (by omega)) (by rfl) (pa_cons (pv 1) (pa_cons (pv 4) (pa_cons (pv 5) pa_nil)))))
      (pss_cons (ps_expr (pe_bm PySem.F.plainAttrs_list PySem.F.slot_list_append PySem.F.type_list_append mt_append (pv 3) (pa_cons (pe_tup (pa_cons (pv 7) (pa_cons (pv 5) (pa_cons (pe_op op_cat (pv 6) (pe_lst (pa_cons pe_int pa_nil))) pa_nil)))) pa_nil)))
      (pss_one (ps_expr (pe_bm PySem.F.plainAttrs_list PySem.F.slot_list_append PySem.F.type_list_append mt_append (pv 3) (pa_cons (pe_tup (pa_cons (pv 4) (pa_cons (pv 7) (pa_cons (pe_op op_cat (pv 6) (pe_lst (pa_cons pe_int pa_nil))) pa_nil)))) pa_nil))))))))))
      (pss_one (ps_ret (pv 2)))))))), ?_⟩
    obtain ⟨n, hn⟩ : ∃ n, n = ws.length := ⟨_, rfl⟩
    rw [← hn] at h1 hl q
    have hne : (ws.map V.int).isEmpty = false := by
      rw [List.isEmpty_eq_false_iff]
      intro z
      have := congrArg List.length z
      rw [List.length_map, List.length_nil] at this
      omega
    refine q_when (b := false) (et_is (et_not (et_truL (ev_var rfl) hs)) (by rw [hne]; rfl)) (fun z => by cases z) fun _ H1 e1 => ?_
    refine q_asgP (R := fun v H' => ∃ p, v = .ref p ∧ DAt P w K H' p (tabR (rgA n) (val ws))) (ep_call (vs := [.ref l]) (ea1 (ev_var rfl)) fun H2 e2 Q k => ⟨l, ws, rfl, ex_l (e1.trans e2) hs, by omega, by omega, fun p H3 hp e3 hd => k _ H3 e3 ⟨p, rfl, by rw [hn]; exact hd⟩⟩) fun v H2 e2 ⟨pt, ev, hd⟩ => ?_
    subst ev
    have e02 := e1.trans e2
    refine q_asgL (el_lst ea_nil (by decide)) fun pf H3 hpf e3 h3 => ?_
    have e03 := e02.trans e3
    refine q_asgP (ep_lst1 (ep_tupL (x := .int ((0 : Nat) : Int)) (y := .int (n : Int)) (xs := ([] : List Int).map V.int) ev_c (ev_is (len_is (ev_var rfl) (ex_l e03 hs)) (by rw [hn])) (el_lst ea_nil (by decide)))) fun v H4 e4 ⟨pw, y, H5, ev, e5, ⟨ta, wa, ey, hta, hwa, hta0, hwa0⟩, hpw, eH4⟩ => ?_
    subst ev ey
    have hfw : pf ≠ pw := fun z => by rw [← z, e5 _ _ h3] at hpw; cases hpw
    have htf : ta ≠ pf := fun z => by rw [z, h3] at hta0; cases hta0
    have hwf : wa ≠ pf := fun z => by rw [z, h3] at hwa0; cases hwa0
    have htw : ta ≠ pw := fun z => by rw [z, hpw] at hta; cases hta
    have hww : wa ≠ pw := fun z => by rw [z, hpw] at hwa; cases hwa
    have hpw4 : H4 pw = some (.lst [.ref ta]) := by rw [eH4, upd_same]
    have hpf4 := e4 _ _ h3
    have e24 := e3.trans e4
    have e04 := e02.trans e24
    have hpf0 := fresh_back e02 hpf
    have hpw2 := fresh_back (e3.trans e5) hpw
    have hpw0 := fresh_back e02 hpw2
    have hwl : (wordsR ws 0 n []).length = n := by simp [wordsR]
    refine q_while (fun m σ' H' => ∃ (its : List (Nat × Nat × List Int)) (xs fs : List V) (done : List (List Int)) (x y z u : Option V), σ' = [some (.ref l), some (.ref pt), some (.ref pf), some (.ref pw), x, y, z, u] ∧ Ex H2 H' ∧ H' pw = some (.lst xs) ∧ H' pf = some (.lst fs) ∧ SL (ItemAt H' pf pw) xs its ∧ SL (WordAt H' pf pw) fs done ∧ (∀ it ∈ its, it.1 < it.2.1 ∧ it.2.1 ≤ n ∧ it.2.2.length + (it.2.1 - it.1) ≤ n) ∧ done ++ restW ws its = wordsR ws 0 n [] ∧ m = wt its ∧ wt its ≤ 2 * n) (2 * n - 1)
      ⟨[(0, n, [])], [.ref ta], [], [], none, none, none, none, rfl, e24, hpw4, hpf4, .snoc .nil ⟨ta, wa, rfl, by rw [eH4, upd_ne htw]; exact hta, by rw [eH4, upd_ne hww]; exact hwa, htf, htw, hwf, hww⟩, .nil, fun it hit => by rw [List.mem_singleton.mp hit]; exact ⟨by show 0 < n; omega, Nat.le_refl n, by show 0 + (n - 0) ≤ n; omega⟩, by simp [restW], by simp [wt], by simp [wt] <;> omega⟩ ?_
    rintro m σ' H6 ⟨its, xs, fs, done, x, y, z, u, rfl, e6, hw6, hf6, hsl, hfl, hits, hdn, hm, hwt⟩
    refine ⟨!xs.isEmpty, et_truL (ev_var rfl) (sq_of hw6), fun hb H7 e7 => ?_, fun hb H7 e7 => ?_⟩
    · have hxs : xs ≠ [] := fun z => by rw [z] at hb; cases hb
      have hie : its ≠ [] := fun z => hxs (List.length_eq_zero_iff.mp (by rw [hsl.len, z]; rfl))
      obtain ⟨its', ⟨a, b, c⟩, rfl⟩ := snoc_cases hie
      obtain ⟨ys, v, rfl, hsl', ta, wa, rfl, hta, hwa, htf, htw, hwf, hww⟩ := hsl.last
      obtain ⟨hab, hbn, hcl⟩ := hits _ (List.mem_append_right _ List.mem_cons_self)
      dsimp only at hab hbn hcl hta hwa
      have hits' : ∀ it ∈ its', it.1 < it.2.1 ∧ it.2.1 ≤ n ∧ it.2.2.length + (it.2.1 - it.1) ≤ n := fun it hit => hits it (List.mem_append_left _ hit)
      rw [rest_snoc] at hdn
      rw [wt_snoc] at hm hwt
      dsimp only at hdn hm hwt
      have hll := wt_len fun it hit => (hits' it hit).1
      have hyl : ys.length ≤ 200 := by rw [hsl'.len]; omega
      have hfll : fs.length ≤ 100 := by
        rw [hfl.len]
        have := congrArg List.length hdn
        rw [hwl, List.length_append] at this
        omega
      refine ⟨fun σ2 H3 => ∃ (its : List (Nat × Nat × List Int)) (xs fs : List V) (done : List (List Int)) (x y z u : Option V), σ2 = [some (.ref l), some (.ref pt), some (.ref pf), some (.ref pw), x, y, z, u] ∧ Ex H2 H3 ∧ H3 pw = some (.lst xs) ∧ H3 pf = some (.lst fs) ∧ SL (ItemAt H3 pf pw) xs its ∧ SL (WordAt H3 pf pw) fs done ∧ (∀ it ∈ its, it.1 < it.2.1 ∧ it.2.1 ≤ n ∧ it.2.2.length + (it.2.1 - it.1) ≤ n) ∧ done ++ restW ws its = wordsR ws 0 n [] ∧ m - 1 = wt its ∧ wt its ≤ 2 * n, fun σ2 H3 h => ⟨m - 1, by omega, h⟩, ?_⟩
      refine q_pop3 (e7 _ _ hw6) (ev_var rfl) (e7 _ _ hta) htw fun H8 e8 => ?_
      have e68 := e7.trans e8
      have e28 := e6.trans e68
      have eu : Ex H2 (upd H8 pw (.lst ys)) := Ex.mut e28 hpw2
      have hf8 : upd H8 pw (.lst ys) pf = some (.lst fs) := by rw [upd_ne hfw]; exact e68 _ _ hf6
      have hs8 : SL (ItemAt (upd H8 pw (.lst ys)) pf pw) ys its' := hsl'.mono fun v it h => (h.ext e68).putW
      have hfl8 : SL (WordAt (upd H8 pw (.lst ys)) pf pw) fs done := hfl.mono fun v it h => (h.ext e68).putW
      have hwa8 : upd H8 pw (.lst ys) wa = some (.lst (c.map V.int)) := by rw [upd_ne hww]; exact e68 _ _ hwa
      have hpw8 : upd H8 pw (.lst ys) pw = some (.lst ys) := upd_same
      generalize upd H8 pw (.lst ys) = G at eu hf8 hs8 hfl8 hwa8 hpw8
      refine s_if (b := decide (b = a + 1)) (et_is (et_test (ev_eq (ev_var (v := .int (b : Int)) rfl) (ev_add (ev_var (v := .int (a : Int)) rfl) ev_c))) (decide_eq_decide.mpr (by omega))) (fun hb2 H9 e9 => ?_) (fun hb2 H9 e9 => ?_)
      · have hba := of_decide_eq_true hb2
        subst hba
        rw [words_one] at hdn
        refine s_app (e9 _ _ hf8) (ev_var rfl) (ev_var rfl) (by omega) fun H10 e10 => ?_
        have e90 := e9.trans e10
        refine ⟨its', ys, fs ++ [.ref wa], done ++ [c], _, _, _, _, rfl, Ex.mut (eu.trans e90) hpf, by rw [upd_ne (fun z => hfw z.symm)]; exact e90 _ _ hpw8, upd_same, hs8.mono fun v it h => (h.ext e90).putF, .snoc (hfl8.mono fun v it h => (h.ext e90).putF) ⟨wa, rfl, by rw [upd_ne hwf]; exact e90 _ _ hwa8, hwf, hww⟩, hits', by rw [List.append_assoc]; exact hdn, by omega, by omega⟩
      · have hba := of_decide_eq_false hb2
        have hup : a + 1 < b := by omega
        have hc := cut_in (ws := ws) hup
        rw [words_up hup] at hdn
        refine q_asg (v := .int (cut ws a b : Nat)) (ev_call (vs := [.ref pt, .int (a : Int), .int (b : Int)]) (ea3 (ev_var rfl) (ev_var rfl) (ev_var rfl)) fun H10 e10 Q q E => ⟨pt, a, b, n, ws, rfl, hd.ext (eu.trans (e9.trans e10)), hup, hbn, by omega, q⟩) fun H10 e10 => ?_
        have e90 := e9.trans e10
        have hw1 : ∀ {σ : L2.St} {H9 : Hp} {d : Int}, σ[6]? = some (some (.ref wa)) → H9 wa = some (.lst (c.map V.int)) → EvL (tOp rCat (tVar 6) (tLst (tCons (tC (.int d)) tNil))) σ H9 ((c ++ [d]).map V.int) := fun h1 h2 => by
          rw [List.map_append]
          exact el_cat3 (ev_var h1) h2 (el_lst (ea1 ev_c) (by show 1 ≤ 100000; decide)) (by rw [List.length_map, List.length_map, List.length_singleton]; omega)
        have hf10 := e90 _ _ hf8
        refine q_appP (e90 _ _ hpw8) (ev_var rfl) (ep_tupL (x := .int (cut ws a b : Nat)) (y := .int (b : Int)) (ev_var rfl) (ev_var rfl) (hw1 (d := 1) rfl (e90 _ _ hwa8))) (by omega) fun v H11 e11 ⟨p1, q1, ev, h1p, h1q, hn1, hn2⟩ => ?_
        subst ev
        have e911 := e90.trans e11
        have p1f : p1 ≠ pf := fun z => by rw [z, hf10] at hn1; cases hn1
        have q1f : q1 ≠ pf := fun z => by rw [z, hf10] at hn2; cases hn2
        have p1w : p1 ≠ pw := fun z => by rw [z, e90 _ _ hpw8] at hn1; cases hn1
        have q1w : q1 ≠ pw := fun z => by rw [z, e90 _ _ hpw8] at hn2; cases hn2
        have eu2 : Ex H2 (upd H11 pw (.lst (ys ++ [.ref p1]))) := Ex.mut (eu.trans e911) hpw2
        have hf11 : upd H11 pw (.lst (ys ++ [.ref p1])) pf = some (.lst fs) := by rw [upd_ne hfw]; exact e911 _ _ hf8
        have hwa11 : upd H11 pw (.lst (ys ++ [.ref p1])) wa = some (.lst (c.map V.int)) := by rw [upd_ne hww]; exact e911 _ _ hwa8
        have hs11 : SL (ItemAt (upd H11 pw (.lst (ys ++ [.ref p1]))) pf pw) (ys ++ [.ref p1]) (its' ++ [(cut ws a b, b, c ++ [1])]) := .snoc (hs8.mono fun v it h => (h.ext e911).putW) ⟨p1, q1, rfl, by rw [upd_ne p1w]; exact h1p, by rw [upd_ne q1w]; exact h1q, p1f, p1w, q1f, q1w⟩
        have hfl11 : SL (WordAt (upd H11 pw (.lst (ys ++ [.ref p1]))) pf pw) fs done := hfl8.mono fun v it h => (h.ext e911).putW
        have hpw11 : upd H11 pw (.lst (ys ++ [.ref p1])) pw = some (.lst (ys ++ [.ref p1])) := upd_same
        generalize upd H11 pw (.lst (ys ++ [.ref p1])) = G2 at eu2 hf11 hwa11 hs11 hfl11 hpw11
        refine s_appP hpw11 (ev_var rfl) (ep_tupL (x := .int (a : Int)) (y := .int (cut ws a b : Nat)) (ev_var rfl) (ev_var rfl) (hw1 (d := 0) rfl hwa11)) (by rw [List.length_append, List.length_singleton]; omega) fun v H12 e12 ⟨p2, q2, ev, h2p, h2q, hm1, hm2⟩ => ?_
        subst ev
        have p2f : p2 ≠ pf := fun z => by rw [z, hf11] at hm1; cases hm1
        have q2f : q2 ≠ pf := fun z => by rw [z, hf11] at hm2; cases hm2
        have p2w : p2 ≠ pw := fun z => by rw [z, hpw11] at hm1; cases hm1
        have q2w : q2 ≠ pw := fun z => by rw [z, hpw11] at hm2; cases hm2
        refine ⟨its' ++ [(cut ws a b, b, c ++ [1])] ++ [(a, cut ws a b, c ++ [0])], (ys ++ [.ref p1]) ++ [.ref p2], fs, done, _, _, _, _, rfl, Ex.mut (eu2.trans e12) hpw2, upd_same, by rw [upd_ne hfw]; exact e12 _ _ hf11, .snoc (hs11.mono fun v it h => (h.ext e12).putW) ⟨p2, q2, rfl, by rw [upd_ne p2w]; exact h2p, by rw [upd_ne q2w]; exact h2q, p2f, p2w, q2f, q2w⟩, hfl11.mono fun v it h => (h.ext e12).putW, fun it hit => ?_, ?_, ?_, ?_⟩
        · rcases List.mem_append.mp hit with z | z
          · rcases List.mem_append.mp z with z | z
            · exact hits' it z
            · rw [List.mem_singleton.mp z]
              refine ⟨hc.2, hbn, ?_⟩
              show (c ++ [1]).length + (b - cut ws a b) ≤ n
              rw [List.length_append, List.length_singleton]
              omega
          · rw [List.mem_singleton.mp z]
            refine ⟨hc.1, by show cut ws a b ≤ n; omega, ?_⟩
            show (c ++ [0]).length + (cut ws a b - a) ≤ n
            rw [List.length_append, List.length_singleton]
            omega
        · rw [rest_snoc, rest_snoc]
          rw [List.append_assoc (wordsR ws a (cut ws a b) (c ++ [0]))] at hdn
          exact hdn
        · rw [wt_snoc, wt_snoc]
          dsimp only
          omega
        · rw [wt_snoc, wt_snoc]
          dsimp only
          omega
    · have hxs : xs = [] := by
        cases xs with
        | nil => rfl
        | cons x r => cases hb
      have hie : its = [] := List.length_eq_zero_iff.mp (by rw [← hsl.len, hxs]; rfl)
      subst hie
      have hd0 : done = wordsR ws 0 n [] := by
        rw [← hdn]
        simp [restW]
      rw [← hd0] at q
      exact s_ret (ev_var rfl) fun H8 e8 => q pf H8 hpf0 (e02.trans ((e6.trans e7).trans e8)) (words_LL (hfl.mono fun v it h => h.ext (e7.trans e8)) ((e7.trans e8) _ _ hf6))
end
end K07
set_option Elab.async false
set_option linter.all false
set_option maxRecDepth 100000
set_option maxHeartbeats 4000000
namespace K07
open PySem PySem.Spec PyProof.Rows L2 StX GX KC KQ KW Evl M07
theorem ix_snoc {l : List Int} {p : Int} (h : l ≠ []) : ix (l ++ [p]) = if p < minL l then l.length else ix l := by
  have hm := minL_snoc l p h
  unfold ix
  rw [hm, List.findIdx_append]
  by_cases z : p < minL l
  · rw [if_pos z, if_pos z]
    have hno : ¬ (List.findIdx (fun y => decide (y = p)) l < l.length) := by
      rw [List.findIdx_lt_length]
      rintro ⟨y, hy, e⟩
      have := minL_le hy
      have := of_decide_eq_true e
      omega
    rw [if_neg hno]
    simp
  · rw [if_neg z, if_neg z]
    have hyes : List.findIdx (fun y => decide (y = minL l)) l < l.length := ix_lt h
    rw [if_pos hyes]
def bestI (s : Nat) (l : List Int) : V := if l = [] then .non else .int ((s + 1 + ix l : Nat) : Int)
structure OKP (ws : List Int) (n : Nat) (cs : List (List Int)) (pend : List (Nat × Nat)) : Prop where
  a : ∀ p ∈ pend, p.1 < p.2 ∧ p.2 ≤ n ∧ ∀ k, p.1 ≤ k → k < p.2 → cs.getD k [] ++ path ws p.1 p.2 k = path ws 0 n k
  b : ∀ k, k < n → (∀ p ∈ pend, ¬ (p.1 ≤ k ∧ k < p.2)) → cs.getD k [] = path ws 0 n k
  c : pend.Pairwise fun p q => p.2 ≤ q.1 ∨ q.2 ≤ p.1
theorem OKP.leaf {ws : List Int} {n s : Nat} {cs : List (List Int)} {rest : List (Nat × Nat)} (h : OKP ws n cs ((s, s + 1) :: rest)) : OKP ws n cs rest := by
  refine ⟨fun p hp => h.a p (List.mem_cons_of_mem _ hp), fun k hk hno => ?_, (List.pairwise_cons.mp h.c).2⟩
  by_cases z : k = s
  · have := (h.a (s, s + 1) List.mem_cons_self).2.2 k (by show s ≤ k; omega) (by show k < s + 1; omega)
    rwa [path_one (Nat.le_refl _), List.append_nil] at this
  · refine h.b k hk fun p hp => ?_
    rcases List.mem_cons.mp hp with e | e
    · rw [e]
      show ¬ (s ≤ k ∧ k < s + 1)
      omega
    · exact hno p e
theorem OKP.cut {ws : List Int} {n s e : Nat} {cs cs' : List (List Int)} {rest : List (Nat × Nat)} (hse : s + 1 < e) (h : OKP ws n cs ((s, e) :: rest)) (hc : ∀ k, cs'.getD k [] = if s ≤ k ∧ k < e then cs.getD k [] ++ [if cut ws s e ≤ k then 1 else 0] else cs.getD k []) : OKP ws n cs' (rest ++ [(s, cut ws s e), (cut ws s e, e)]) := by
  have hci := cut_in (ws := ws) hse
  obtain ⟨_, hen, hk0⟩ := h.a (s, e) List.mem_cons_self
  have hpw := List.pairwise_cons.mp h.c
  dsimp only at hen hk0 hpw
  refine ⟨fun p hp => ?_, fun k hk hno => ?_, ?_⟩
  · rcases List.mem_append.mp hp with y | y
    · obtain ⟨a1, a2, a3⟩ := h.a p (List.mem_cons_of_mem _ y)
      refine ⟨a1, a2, fun k h1 h2 => ?_⟩
      have := hpw.1 p y
      rw [hc k, if_neg (by omega)]
      exact a3 k h1 h2
    · rcases List.mem_cons.mp y with y | y
      · rw [y]
        refine ⟨hci.1, by show M07.cut ws s e ≤ n; omega, fun k h1 h2 => ?_⟩
        have h2 : k < M07.cut ws s e := h2
        have := hk0 k h1 (by omega)
        rw [path_up hse, if_pos h2] at this
        rw [hc k, if_pos ⟨h1, by omega⟩, if_neg (by omega), List.append_assoc]
        exact this
      · rw [List.mem_singleton.mp y]
        refine ⟨hci.2, hen, fun k h1 h2 => ?_⟩
        have h1 : M07.cut ws s e ≤ k := h1
        have := hk0 k (by omega) h2
        rw [path_up hse, if_neg (by omega)] at this
        rw [hc k, if_pos ⟨by omega, h2⟩, if_pos h1, List.append_assoc]
        exact this
  · have n1 := hno (s, M07.cut ws s e) (List.mem_append_right _ List.mem_cons_self)
    have n2 := hno (M07.cut ws s e, e) (List.mem_append_right _ (List.mem_cons_of_mem _ List.mem_cons_self))
    dsimp only at n1 n2
    have hout : ¬ (s ≤ k ∧ k < e) := by omega
    rw [hc k, if_neg hout]
    refine h.b k hk fun p hp => ?_
    rcases List.mem_cons.mp hp with y | y
    · rw [y]; exact hout
    · exact hno p (List.mem_append_left _ y)
  · rw [List.pairwise_append]
    refine ⟨hpw.2, ?_, fun p hp q hq => ?_⟩
    · rw [List.pairwise_cons]
      refine ⟨fun q hq => ?_, List.pairwise_singleton _ _⟩
      rw [List.mem_singleton.mp hq]
      exact .inl (Nat.le_refl _)
    · have h1 := hpw.1 p hp
      have h2 := (h.a p (List.mem_cons_of_mem _ hp)).1
      rcases List.mem_cons.mp hq with y | y
      · rw [y]
        show p.2 ≤ s ∨ M07.cut ws s e ≤ p.1
        omega
      · rw [List.mem_singleton.mp y]
        show p.2 ≤ M07.cut ws s e ∨ e ≤ p.1
        omega
def cnt (pend : List (Nat × Nat)) : Nat := (pend.map fun p => 2 * (p.2 - p.1) - 2).sum
theorem cnt_app (a b : List (Nat × Nat)) : cnt (a ++ b) = cnt a + cnt b := by simp [cnt]
theorem cnt_cons (p : Nat × Nat) (b : List (Nat × Nat)) : cnt (p :: b) = (2 * (p.2 - p.1) - 2) + cnt b := by simp [cnt]
def upW (cs : List (List Int)) (n s c j : Nat) : List (List Int) := (List.range n).map fun k => if s ≤ k ∧ k < s + j then cs.getD k [] ++ [if c ≤ k then 1 else 0] else cs.getD k []
theorem upW_q {cs : List (List Int)} {n s c j k : Nat} : (upW cs n s c j)[k]? = if k < n then some (if s ≤ k ∧ k < s + j then cs.getD k [] ++ [if c ≤ k then 1 else 0] else cs.getD k []) else none := by
  unfold upW
  rw [List.getElem?_map]
  by_cases z : k < n
  · rw [List.getElem?_range z, if_pos z]
    rfl
  · rw [List.getElem?_eq_none (by simp; omega), if_neg z]
    rfl
theorem upW_get {cs : List (List Int)} {n s c j k : Nat} (hl : cs.length = n) : (upW cs n s c j).getD k [] = if s ≤ k ∧ k < s + j ∧ k < n then cs.getD k [] ++ [if c ≤ k then 1 else 0] else cs.getD k [] := by
  rw [List.getD_eq_getElem?_getD, upW_q]
  by_cases z : k < n
  · rw [if_pos z]
    show (if s ≤ k ∧ k < s + j then cs.getD k [] ++ [if c ≤ k then 1 else 0] else cs.getD k []) = _
    by_cases y : s ≤ k ∧ k < s + j
    · rw [if_pos y, if_pos (show s ≤ k ∧ k < s + j ∧ k < n from ⟨y.1, y.2, z⟩)]
    · rw [if_neg y, if_neg (show ¬ (s ≤ k ∧ k < s + j ∧ k < n) from fun x => y ⟨x.1, x.2.1⟩)]
  · rw [if_neg z, if_neg (show ¬ (s ≤ k ∧ k < s + j ∧ k < n) from fun x => z x.2.2)]
    rw [List.getD_eq_getElem?_getD, List.getElem?_eq_none (by omega)]
theorem upW_len (cs : List (List Int)) (n s c j : Nat) : (upW cs n s c j).length = n := by simp [upW]
theorem upW_zero {cs : List (List Int)} {n s c : Nat} (hl : cs.length = n) : upW cs n s c 0 = cs := by
  refine List.ext_getElem? fun k => ?_
  rw [upW_q]
  by_cases z : k < n
  · rw [if_pos z, if_neg (show ¬ (s ≤ k ∧ k < s + 0) by omega), List.getD_eq_getElem?_getD, List.getElem?_eq_getElem (by omega)]
    rfl
  · rw [if_neg z, List.getElem?_eq_none (by omega)]
theorem upW_succ {cs : List (List Int)} {n s c j : Nat} (hj : s + j < n) : (upW cs n s c j).set (s + j) (cs.getD (s + j) [] ++ [if c ≤ s + j then 1 else 0]) = upW cs n s c (j + 1) := by
  refine List.ext_getElem? fun k => ?_
  by_cases z : s + j = k
  · subst z
    rw [List.getElem?_set_self (by rw [upW_len]; exact hj), upW_q, if_pos hj, if_pos (show s ≤ s + j ∧ s + j < s + (j + 1) by omega)]
  · rw [List.getElem?_set_ne z, upW_q, upW_q]
    by_cases x : k < n
    · rw [if_pos x, if_pos x]
      by_cases y : s ≤ k ∧ k < s + j
      · rw [if_pos y, if_pos (show s ≤ k ∧ k < s + (j + 1) by omega)]
      · rw [if_neg y, if_neg (show ¬ (s ≤ k ∧ k < s + (j + 1)) by omega)]
    · rw [if_neg x, if_neg x]
theorem upW_at {cs : List (List Int)} {n s c j : Nat} (hj : s + j < n) : (upW cs n s c j)[s + j]? = some (cs.getD (s + j) []) := by
  rw [upW_q, if_pos hj, if_neg (show ¬ (s ≤ s + j ∧ s + j < s + j) by omega)]
/-- the words, and the ranges -/
def WL (H : Hp) (pw pr : Addr) (cs : List (List Int)) : Prop := ∃ rs : List Addr, H pw = some (.lst (rs.map V.ref)) ∧ rs.length = cs.length ∧ ∀ (j : Nat) (r : Addr) (c : List Int), rs[j]? = some r → cs[j]? = some c → H r = some (.lst (c.map V.int)) ∧ r ≠ pw ∧ r ≠ pr
def RL (H : Hp) (pw pr : Addr) (R : List (Nat × Nat)) : Prop := ∃ ts : List Addr, H pr = some (.lst (ts.map V.ref)) ∧ ts.length = R.length ∧ ∀ (j : Nat) (t : Addr) (p : Nat × Nat), ts[j]? = some t → R[j]? = some p → H t = some (.tup [.int (p.1 : Int), .int (p.2 : Int)]) ∧ t ≠ pw ∧ t ≠ pr
theorem WL.ext {H H' : Hp} {pw pr : Addr} {cs : List (List Int)} (e : Ex H H') (h : WL H pw pr cs) : WL H' pw pr cs := by
  obtain ⟨rs, h1, h2, h3⟩ := h
  exact ⟨rs, e _ _ h1, h2, fun j r c a b => ⟨e _ _ (h3 j r c a b).1, (h3 j r c a b).2⟩⟩
theorem RL.ext {H H' : Hp} {pw pr : Addr} {R : List (Nat × Nat)} (e : Ex H H') (h : RL H pw pr R) : RL H' pw pr R := by
  obtain ⟨ts, h1, h2, h3⟩ := h
  exact ⟨ts, e _ _ h1, h2, fun j r c a b => ⟨e _ _ (h3 j r c a b).1, (h3 j r c a b).2⟩⟩
theorem WL.putR {H : Hp} {pw pr : Addr} {cs : List (List Int)} {o : HO} (ne : pw ≠ pr) (h : WL H pw pr cs) : WL (upd H pr o) pw pr cs := by
  obtain ⟨rs, h1, h2, h3⟩ := h
  exact ⟨rs, by rw [upd_ne ne]; exact h1, h2, fun j r c a b => ⟨by rw [upd_ne (h3 j r c a b).2.2]; exact (h3 j r c a b).1, (h3 j r c a b).2⟩⟩
theorem RL.putW {H : Hp} {pw pr : Addr} {R : List (Nat × Nat)} {o : HO} (ne : pw ≠ pr) (h : RL H pw pr R) : RL (upd H pw o) pw pr R := by
  obtain ⟨ts, h1, h2, h3⟩ := h
  exact ⟨ts, by rw [upd_ne (fun z => ne z.symm)]; exact h1, h2, fun j r c a b => ⟨by rw [upd_ne (h3 j r c a b).2.1]; exact (h3 j r c a b).1, (h3 j r c a b).2⟩⟩
theorem RL.app {H : Hp} {pw pr t : Addr} {R : List (Nat × Nat)} {ts : List V} {p : Nat × Nat} (h : RL H pw pr R) (hl : H pr = some (.lst ts)) (ht : H t = some (.tup [.int (p.1 : Int), .int (p.2 : Int)])) (n1 : t ≠ pw) (n2 : t ≠ pr) : RL (upd H pr (.lst (ts ++ [.ref t]))) pw pr (R ++ [p]) := by
  obtain ⟨as, h1, h2, h3⟩ := h
  rw [h1] at hl
  cases hl
  refine ⟨as ++ [t], by rw [upd_same, List.map_append]; rfl, by rw [List.length_append, List.length_append, h2]; rfl, fun j a q ha hq => ?_⟩
  by_cases z : j < as.length
  · rw [List.getElem?_append_left z] at ha
    rw [List.getElem?_append_left (by omega)] at hq
    obtain ⟨g1, g2, g3⟩ := h3 j a q ha hq
    exact ⟨by rw [upd_ne g3]; exact g1, g2, g3⟩
  · have hj : j = as.length := by
      have := (List.getElem?_eq_some_iff.mp ha).1
      rw [List.length_append, List.length_singleton] at this
      omega
    subst hj
    rw [List.getElem?_append_right (Nat.le_refl _), Nat.sub_self] at ha
    rw [h2, List.getElem?_append_right (Nat.le_refl _), Nat.sub_self] at hq
    cases ha
    cases hq
    exact ⟨by rw [upd_ne n2]; exact ht, n1, n2⟩
theorem WL.set {H : Hp} {pw pr r : Addr} {cs : List (List Int)} {xs : List V} {j : Nat} {c : List Int} (h : WL H pw pr cs) (hl : H pw = some (.lst xs)) (hr : H r = some (.lst (c.map V.int))) (n1 : r ≠ pw) (n2 : r ≠ pr) : WL (upd H pw (.lst (xs.set j (.ref r)))) pw pr (cs.set j c) := by
  obtain ⟨rs, h1, h2, h3⟩ := h
  rw [h1] at hl
  cases hl
  refine ⟨rs.set j r, by rw [upd_same, List.map_set], by rw [List.length_set, List.length_set, h2], fun i a q ha hq => ?_⟩
  by_cases z : j = i
  · subst z
    have hlt : j < rs.length := by
      have := (List.getElem?_eq_some_iff.mp ha).1
      rwa [List.length_set] at this
    rw [List.getElem?_set_self hlt] at ha
    rw [List.getElem?_set_self (by omega)] at hq
    cases ha
    cases hq
    exact ⟨by rw [upd_ne n1]; exact hr, n1, n2⟩
  · rw [List.getElem?_set_ne z] at ha hq
    obtain ⟨g1, g2, g3⟩ := h3 i a q ha hq
    exact ⟨by rw [upd_ne g2]; exact g1, g2, g3⟩
end K07
set_option Elab.async false
set_option linter.all false
set_option maxRecDepth 100000
set_option maxHeartbeats 4000000
namespace K07
open PySem PySem.Spec PyProof.Rows L2 StX GX KC KQ KW Evl M07
section
variable {P : Program} {w : World} {K : PySem.W.Frag} {mg : Str → Option Value} {base : Heap} {σ : L2.St} {H H' : Hp} {ta tb tc te td tl : TE} {D : Ends} {tz : TS}
theorem ep_ofU {xs : List V} (h : EvU te σ H xs) : EvP te σ H fun v H' => ∃ p, v = .ref p ∧ H' p = some (.tup xs) ∧ H p = none := fun H1 e Q k => h H1 e _ fun p H2 hp e2 hx => k _ H2 e2 ⟨p, rfl, hx, fresh_back e hp⟩
theorem rc_intB {b : Bool} : RC (fun xs H Q => (∃ i, xs = [.int i] ∧ Q (.int i) H) ∨ ∃ k, xs = [.bl k] ∧ Q (.int (if k then 1 else 0)) H) [.bl b] H (.int (if b then 1 else 0)) := rc_val fun _ _ _ q => .inr ⟨b, rfl, q⟩
theorem pf_len (ws : List Int) : ∀ (f s e k : Nat), (pf ws f s e k).length ≤ f
  | 0, _, _, _ => Nat.le_refl _
  | f + 1, s, e, k => by
    rw [pf_succ]
    have h1 := pf_len ws f s (cut ws s e) k
    have h2 := pf_len ws f (cut ws s e) e k
    split
    · exact Nat.zero_le _
    · split <;> rw [List.length_cons] <;> omega
theorem path_len (ws : List Int) (s e k : Nat) : (path ws s e k).length ≤ e - s := pf_len ws _ s e k
theorem ev_ge2 {i j : Int} (h : Ev ta σ H (.int i)) (h2 : Ev tb σ H (.int j)) : Ev (tOp (rI0 fun i j => .bl (decide (j ≤ i))) ta tb) σ H (.bl (decide (j ≤ i))) := ev_op h h2 rv_I0
def spCuts (P : Program) (w : World) (K : PySem.W.Frag) : Sp := fun vs H Q _ => ∃ (p : Addr) (ws : List Int), vs = [.ref p, .int (ws.length : Int)] ∧ DAt P w K H p (tabR (rgA ws.length) (val ws)) ∧ 1 ≤ ws.length ∧ ws.length ≤ 100 ∧ ∀ p H2, H p = none → Ex H H2 → LL H2 p (wordsR ws 0 ws.length []) → Q (.ref p) H2
theorem ok_law_cuts {f : Addr} {fd : FuncData} {k : Nat} (F : Fun K "_law_cuts" "_law_cuts" s_law_cuts f fd) (B : Bs mg) : FnOk P w K mg base CX0 (k + 1) f fd ["table", "many"] (spCuts P w K) := by
  refine F.ok sc_law_cuts (fun vs H Q E h => ?_) (fun cdv A outer s0 H vs Q E hr h => ?_)
  · obtain ⟨p, ws, rfl, _⟩ := h
    rfl
  · obtain ⟨pt, ws, rfl, hd, h1, hl, q⟩ := h
    have hu := units1 hr
    refine ⟨_, (pss_cons (ps_setLc (i := 2) rfl sc_law_cuts.nd rfl rfl (sw_true rfl rfl rfl (by decide +kernel)) (pi_range1 (by rfl) B.range (pa_cons (pv 1) pa_nil)) (blkOk_by (own := [("k", 3)]) (N := ["table", "many", "words", "k", "ranges", "turn", "start", "stop", "best", "price"]) (sc := defScope s_law_cuts) (by decide +kernel)) (fun _ _ _ _ _ => (pg_name (i := 3) sc_law_cuts.nd rfl (Or.inl rfl))) (fun _ _ _ _ _ => pts_nil) (fun _ _ _ _ _ => (pe_lst pa_nil)))
      (pss_cons (ps_set (i := 4) sc_law_cuts.nd rfl (Or.inl rfl) (pe_lst (pa_cons (pe_tup (pa_cons pe_int (pa_cons (pv 1) pa_nil))) pa_nil)))
      (pss_cons (ps_for PassesOwn.never rfl (pi_range1 (by rfl) B.range (pa_cons (pe_op op_mul pe_int (pv 1)) pa_nil)) (pg_name (i := 5) sc_law_cuts.nd rfl (Or.inl rfl)) (pss_one (ps_if (pt_cmpR op_lt (pv 5) (pe_callB call_len_seq (by rfl) B.len PySem.boot_len (pa_cons (pv 4) pa_nil)) (nomark _)) (pss_cons (ps_asg (pe_ix ix_list (pv 4) (pv 5) (fun _ _ => rfl)) (pg_tup rfl (pgs_cons (pg_name (i := 6) sc_law_cuts.nd rfl (Or.inl rfl)) (pgs_cons (pg_name (i := 7) sc_law_cuts.nd rfl (Or.inl rfl)) pgs_nil))))
      (pss_cons (ps_set (i := 8) sc_law_cuts.nd rfl (Or.inl rfl) pe_non)
      (pss_cons (ps_for PassesOwn.never rfl (pi_range2 (by rfl) B.range (pa_cons (pe_op op_add (pv 6) pe_int) (pa_cons (pv 7) pa_nil))) (pg_name (i := 3) sc_law_cuts.nd rfl (Or.inl rfl)) (pss_cons (ps_set (i := 9) sc_law_cuts.nd rfl (Or.inl rfl) (pe_op op_add (pe_dgx (P := P) (w := w) (K := K) ⟨rfl, rfl, rfl⟩ hu (pv 0) (pe_tup (pa_cons (pv 6) (pa_cons (pv 3) pa_nil))) (fun _ _ => rfl)) (pe_dgx (P := P) (w := w) (K := K) ⟨rfl, rfl, rfl⟩ hu (pv 0) (pe_tup (pa_cons (pv 3) (pa_cons (pv 7) pa_nil))) (fun _ _ => rfl))))
      (pss_one (ps_if (PW.pt (pw_or (pt_cmpR op_isN (pv 8) pe_non (nomark _)) (pw_or1 (pt_cmpR op_lt (pv 9) (pe_op op_add (pe_dgx (P := P) (w := w) (K := K) ⟨rfl, rfl, rfl⟩ hu (pv 0) (pe_tup (pa_cons (pv 6) (pa_cons (pv 8) pa_nil))) (fun _ _ => rfl)) (pe_dgx (P := P) (w := w) (K := K) ⟨rfl, rfl, rfl⟩ hu (pv 0) (pe_tup (pa_cons (pv 8) (pa_cons (pv 7) pa_nil))) (fun _ _ => rfl))) (nomark _))))) (pss_one (ps_set (i := 8) sc_law_cuts.nd rfl (Or.inl rfl) (pv 3))) pss_nil))))
      (pss_one (ps_if (pt_cmpR op_notN (pv 8) pe_non (nomark _)) (pss_cons (ps_expr (pe_bm PySem.F.plainAttrs_list PySem.F.slot_list_append PySem.F.type_list_append mt_append (pv 4) (pa_cons (pe_tup (pa_cons (pv 6) (pa_cons (pv 8) pa_nil))) pa_nil)))
      (pss_cons (ps_expr (pe_bm PySem.F.plainAttrs_list PySem.F.slot_list_append PySem.F.type_list_append mt_append (pv 4) (pa_cons (pe_tup (pa_cons (pv 8) (pa_cons (pv 7) pa_nil))) pa_nil)))
      (pss_one (ps_for PassesOwn.never rfl (pi_range2 (by rfl) B.range (pa_cons (pv 6) (pa_cons (pv 7) pa_nil))) (pg_name (i := 3) sc_law_cuts.nd rfl (Or.inl rfl)) (pss_one (ps_asg (pe_op op_cat (pe_ix ix_list (pv 2) (pv 3) (fun _ _ => rfl)) (pe_lst (pa_cons (pe_callTy call_int1 (by rfl) B.int (by decide +kernel) (pa_cons (pe_cmpR op_ge (pv 3) (pv 8) (nomark _)) pa_nil)) pa_nil))) (pg_sub (pv 2) (pv 3) set_list))))))) pss_nil))))) pss_nil)))
      (pss_one (ps_ret (pv 2)))))), ?_⟩
    obtain ⟨n, hn⟩ : ∃ n, n = ws.length := ⟨_, rfl⟩
    rw [← hn] at h1 hl q hd ⊢
    refine q_asgP (ep_lcLL (fun _ => []) (ea1 (ev_var (v := .int (n : Int)) rfl)) (by omega) (fun x => rfl) fun i H1 e1 hi => el_lst ea_nil (by decide)) fun v H1 e1 ⟨pw, ev, hpw, hLL⟩ => ?_
    subst ev
    refine q_asgP (ep_lst1 (ep_ofU (xs := [.int ((0 : Nat) : Int), .int (n : Int)]) (eu_tup (ea2 ev_c (ev_var rfl)) (by show 2 ≤ 100000; decide)))) fun v H2 e2 ⟨pr, y, H3, ev, e3, ⟨t0, ey, ht0, ht0n⟩, hpr, eH2⟩ => ?_
    subst ev ey
    obtain ⟨rs, hrs, hrl, hrg⟩ := hLL
    have hcl : ((List.range n).map fun _ => ([] : List Int)).length = n := by simp
    have hwr : pw ≠ pr := fun z => by rw [← z, e3 _ _ hrs] at hpr; cases hpr
    have ht0w : t0 ≠ pw := fun z => by rw [z, hrs] at ht0n; cases ht0n
    have ht0r : t0 ≠ pr := fun z => by rw [z, hpr] at ht0; cases ht0
    have hWL : WL H2 pw pr ((List.range n).map fun _ => []) := by
      refine ⟨rs, e2 _ _ hrs, hrl, fun j r c a b => ?_⟩
      have hr0 := hrg j r c a b
      refine ⟨e2 _ _ hr0, fun z => ?_, fun z => ?_⟩
      · rw [z, hrs] at hr0
        have hc0 : c = [] := by
          rw [List.getElem?_map] at b
          cases hx : (List.range n)[j]? with
          | none => rw [hx] at b; cases b
          | some x =>
            rw [hx] at b
            cases b
            rfl
        rw [hc0] at hr0
        have h3 := congrArg (fun o => match o with | some (HO.lst l) => l.length | _ => 0) hr0
        have h4 : rs.length = 0 := by simpa using h3
        omega
      · rw [← z, e3 _ _ hr0] at hpr
        cases hpr
    have hRL : RL H2 pw pr [(0, n)] := ⟨[t0], by rw [eH2, upd_same]; rfl, rfl, fun j t p a b => by
      have hj : j = 0 := by
        have := (List.getElem?_eq_some_iff.mp a).1
        rw [List.length_singleton] at this
        omega
      subst hj
      cases a
      cases b
      exact ⟨by rw [eH2, upd_ne ht0r]; exact ht0, ht0w, ht0r⟩⟩
    have e02 := e1.trans e2
    have hpr0 := fresh_back (e1.trans e3) hpr
    refine q_forR1 (n := ((2 * n : Nat) : Int)) (ea1 (ev_is (ev_op (ev_c (v := .int 2)) (ev_var (v := .int (n : Int)) rfl) (rv_mul (by omega))) (by push_cast; rfl))) ⟨by omega, by omega⟩
      (fun t σ' H' => ∃ (R : List (Nat × Nat)) (cs : List (List Int)) (a b c d e f : Option V), σ' = [some (.ref pt), some (.int (n : Int)), some (.ref pw), a, some (.ref pr), b, c, d, e, f] ∧ Ex H H' ∧ WL H' pw pr cs ∧ RL H' pw pr R ∧ cs.length = n ∧ OKP ws n cs (R.drop t) ∧ R.length + cnt (R.drop t) = 2 * n - 1)
      (fun H4 e4 => ⟨[(0, n)], (List.range n).map fun _ => [], none, none, none, none, none, none, rfl, e02.trans e4, hWL.ext e4, hRL.ext e4, hcl, ⟨fun p hp => ?_, fun k hk hno => ?_, List.pairwise_singleton _ _⟩, by show 1 + cnt [(0, n)] = 2 * n - 1; rw [cnt_cons]; show 1 + (2 * (n - 0) - 2 + 0) = 2 * n - 1; omega⟩) ?_ ?_
    · rw [List.mem_singleton.mp hp]
      refine ⟨by show 0 < n; omega, Nat.le_refl n, fun k h1 h2 => ?_⟩
      have h2 : k < n := h2
      rw [List.getD_eq_getElem?_getD, List.getElem?_map, List.getElem?_range h2]
      rfl
    · exact absurd ⟨Nat.zero_le k, hk⟩ (hno (0, n) List.mem_cons_self)
    · rintro t σ' H4 ht ⟨R, cs, a, b, c, d, e, f, rfl, ex4, hW4, hR4, hcn, hok, hct⟩
      have ht2 : t < 2 * n := by omega
      obtain ⟨ts, hts, htl, htg⟩ := hR4
      have hR4 : RL H4 pw pr R := ⟨ts, hts, htl, htg⟩
      refine s_when (b := decide (t < R.length)) (et_is (et_test (ev_op (ev_var (v := .int (t : Int)) rfl) (ev_is (ev_len (ev_var rfl) (sq_of hts)) (by rw [List.length_map, htl])) rv_I0)) (decide_eq_decide.mpr (by omega))) (fun hb H5 e5 => ?_) (fun hb H5 e5 => ?_)
      · have hlt := of_decide_eq_true hb
        obtain ⟨s, e, hse⟩ : ∃ s e, R[t] = (s, e) := ⟨_, _, rfl⟩
        have hdr : R.drop t = (s, e) :: R.drop (t + 1) := by rw [List.drop_eq_getElem_cons hlt, hse]
        have hta : ts[t]? = some ts[t] := List.getElem?_eq_getElem (by omega)
        obtain ⟨g1, g2, g3⟩ := htg t ts[t] (s, e) hta (by rw [List.getElem?_eq_getElem hlt, hse])
        dsimp only at g1
        rw [hdr] at hok hct
        obtain ⟨a1, a2, _⟩ := hok.a (s, e) List.mem_cons_self
        dsimp only at a1 a2
        rw [cnt_cons] at hct
        dsimp only at hct
        refine q_unp2 (ev_op (ev_var rfl) (ev_var (v := .int (t : Int)) rfl) (rv_ixL (sq_of (e5 _ _ hts)) (atI_nat (by rw [List.getElem?_map, hta]; rfl)))) (st_of (e5 _ _ g1)) fun H6 e6 => ?_
        refine q_asg (v := .non) ev_c fun H7 e7 => ?_
        have e47 := (e5.trans e6).trans e7
        have hpl := parts_len ws s e
        refine q_forR2 (lo := ((s + 1 : Nat) : Int)) (n := (e : Int)) (ea2 (ev_is (ev_add (ev_var (v := .int (s : Int)) rfl) ev_c) (by push_cast; rfl)) (ev_var rfl)) ⟨by omega, by omega, by omega, by omega⟩
          (fun m σ' H' => ∃ x y : Option V, σ' = [some (.ref pt), some (.int (n : Int)), some (.ref pw), x, some (.ref pr), some (.int (t : Int)), some (.int (s : Int)), some (.int (e : Int)), some (bestI s ((parts ws s e).take m)), y] ∧ Ex H7 H')
          (fun H8 e8 => ⟨_, _, rfl, e8⟩) ?_ ?_
        · rintro m σ' H8 hm ⟨x, y, rfl, e8⟩
          have hmi : m < e - s - 1 := by omega
          have hk : ((s + 1 : Nat) : Int) + (m : Int) = ((s + 1 + m : Nat) : Int) := by push_cast; rfl
          rw [hk]
          have hd8 := hd.ext ((ex4.trans e47).trans e8)
          have hget := parts_get (ws := ws) (s := s) (e := e) (j := m) hmi
          obtain ⟨p, hp⟩ : ∃ p, p = val ws s (s + 1 + m) + val ws (s + 1 + m) e := ⟨_, rfl⟩
          rw [← hp] at hget
          refine q_asg (v := .int p) (ev_is (ev_add (ev_tab rfl rfl rfl hd8 (by omega) (by omega)) (ev_tab rfl rfl rfl hd8 (by omega) (by omega))) (by rw [hp])) fun H9 e9 => ?_
          have hlt2 : m < (parts ws s e).length := by omega
          have htk : (parts ws s e).take (m + 1) = (parts ws s e).take m ++ [p] := by
            rw [← List.take_append_getElem hlt2]
            rw [List.getD_eq_getElem?_getD, List.getElem?_eq_getElem hlt2] at hget
            exact congrArg _ (congrArg (fun x => [x]) hget)
          have htl2 : ((parts ws s e).take m).length = m := by rw [List.length_take]; omega
          rw [htk]
          by_cases z0 : (parts ws s e).take m = []
          · have hm0 : m = 0 := by rw [z0] at htl2; exact htl2.symm
            subst hm0
            have hb1 : bestI s ([] ++ [p]) = .int ((s + 1 + 0 : Nat) : Int) := by
              have : ix [p] = 0 := by
                have := ix_lt (l := [p]) (by simp)
                rw [List.length_singleton] at this
                omega
              show (if [p] = [] then V.non else .int ((s + 1 + ix [p] : Nat) : Int)) = _
              rw [if_neg (by simp), this]
            rw [z0, hb1]
            exact s_when (b := true) (et_is (et_or (a := true) (b := true) (et_is (et_test (ev_isN (ev_var rfl) ev_c)) rfl) fun z => by cases z) rfl) (fun _ H10 e10 => s_asg (v := .int ((s + 1 + 0 : Nat) : Int)) (ev_var rfl) fun H11 e11 => ⟨_, _, rfl, ((e8.trans e9).trans e10).trans e11⟩) (fun z => by cases z)
          · have hb0 : bestI s ((parts ws s e).take m) = .int ((s + 1 + ix ((parts ws s e).take m) : Nat) : Int) := if_neg z0
            have hb1 : bestI s ((parts ws s e).take m ++ [p]) = if p < minL ((parts ws s e).take m) then .int ((s + 1 + m : Nat) : Int) else .int ((s + 1 + ix ((parts ws s e).take m) : Nat) : Int) := by
              show (if (parts ws s e).take m ++ [p] = [] then V.non else .int ((s + 1 + ix ((parts ws s e).take m ++ [p]) : Nat) : Int)) = _
              rw [if_neg (by simp), ix_snoc z0, htl2]
              split <;> rfl
            rw [hb0, hb1]
            have hix := ix_lt z0
            rw [htl2] at hix
            have hat := ix_at z0
            have hval : val ws s (s + 1 + ix ((parts ws s e).take m)) + val ws (s + 1 + ix ((parts ws s e).take m)) e = minL ((parts ws s e).take m) := by
              rw [← parts_get (ws := ws) (by omega), ← hat, List.getD_eq_getElem?_getD, List.getD_eq_getElem?_getD, List.getElem?_take, if_pos hix]
            generalize ix ((parts ws s e).take m) = iz at hix hval
            have hd9 := hd8.ext e9
            refine s_when (b := decide (p < minL ((parts ws s e).take m))) (et_is (et_or (a := false) (b := decide (p < minL ((parts ws s e).take m))) (et_is (et_test (ev_isN (ev_var rfl) ev_c)) rfl) fun _ => et_test (ev_lt (ev_var (v := .int p) rfl) (ev_is (ev_add (ev_tab (s := s) (e := s + 1 + iz) rfl rfl rfl hd9 (by omega) (by omega)) (ev_tab (s := s + 1 + iz) (e := e) rfl rfl rfl hd9 (by omega) (by omega))) (by rw [hval])))) (Bool.false_or _)) (fun hb H10 e10 => ?_) (fun hb H10 e10 => ?_)
            · rw [if_pos (of_decide_eq_true hb)]
              exact s_asg (v := .int ((s + 1 + m : Nat) : Int)) (ev_var rfl) fun H11 e11 => ⟨_, _, rfl, ((e8.trans e9).trans e10).trans e11⟩
            · rw [if_neg (of_decide_eq_false hb)]
              exact ⟨_, _, rfl, (e8.trans e9).trans e10⟩
        · rintro σ' H8 ⟨x, y, rfl, e8⟩
          have hm : ((e : Int) - ((s + 1 : Nat) : Int)).toNat = e - s - 1 := by omega
          rw [hm, List.take_of_length_le (by omega)]
          have e48 := e47.trans e8
          have ex8 := ex4.trans e48
          by_cases z0 : e = s + 1
          · have hp0 : parts ws s e = [] := List.length_eq_zero_iff.mp (by omega)
            have hb0 : bestI s (parts ws s e) = .non := if_pos hp0
            rw [hb0]
            subst z0
            exact s_when (b := false) (et_is (et_test (ev_notN (ev_var rfl) ev_c)) rfl) (fun z => by cases z) (fun _ H9 e9 => ⟨R, cs, _, _, _, _, _, _, rfl, ex8.trans e9, hW4.ext (e48.trans e9), hR4.ext (e48.trans e9), hcn, hok.leaf, by omega⟩)
          · have hup : s + 1 < e := by omega
            have hb0 : bestI s (parts ws s e) = .int (cut ws s e : Nat) := if_neg (parts_ne hup)
            rw [hb0]
            have hc := cut_in (ws := ws) hup
            refine s_when (b := true) (et_is (et_test (ev_notN (ev_var rfl) ev_c)) rfl) (fun _ H9 e9 => ?_) (fun z => by cases z)
            have e49 := e48.trans e9
            have hts9 := e49 _ _ hts
            have hlenR : R.length ≤ 200 := by omega
            refine q_appP hts9 (ev_var rfl) (ep_ofU (xs := [.int (s : Int), .int (cut ws s e : Nat)]) (eu_tup (ea2 (ev_var rfl) (ev_var rfl)) (by show 2 ≤ 100000; decide))) (by rw [List.length_map]; omega) fun v H10 e10 ⟨p1, ev, hp1, hn1⟩ => ?_
            subst ev
            have n1w : p1 ≠ pw := fun z => by
              obtain ⟨rs4, h4, _⟩ := hW4
              rw [z, e49 _ _ h4] at hn1; cases hn1
            have n1r : p1 ≠ pr := fun z => by rw [z, hts9] at hn1; cases hn1
            have hR10 := (hR4.ext (e49.trans e10)).app (p := (s, cut ws s e)) (e10 _ _ hts9) hp1 n1w n1r
            have hW10 := (hW4.ext (e49.trans e10)).putR (o := .lst (ts.map V.ref ++ [.ref p1])) hwr
            have ex10 : Ex H (upd H10 pr (.lst (ts.map V.ref ++ [.ref p1]))) := Ex.mut ((ex8.trans e9).trans e10) hpr0
            have hl10 : upd H10 pr (.lst (ts.map V.ref ++ [.ref p1])) pr = some (.lst (ts.map V.ref ++ [.ref p1])) := upd_same
            generalize upd H10 pr (.lst (ts.map V.ref ++ [.ref p1])) = G1 at hR10 hW10 ex10 hl10
            refine q_appP hl10 (ev_var rfl) (ep_ofU (xs := [.int (cut ws s e : Nat), .int (e : Int)]) (eu_tup (ea2 (ev_var rfl) (ev_var rfl)) (by show 2 ≤ 100000; decide))) (by rw [List.length_append, List.length_map, List.length_singleton]; omega) fun v H11 e11 ⟨p2, ev, hp2, hn2⟩ => ?_
            subst ev
            have n2w : p2 ≠ pw := fun z => by
              obtain ⟨rs4, h4, _⟩ := hW10
              rw [z, h4] at hn2; cases hn2
            have n2r : p2 ≠ pr := fun z => by rw [z, hl10] at hn2; cases hn2
            have hR11 := (hR10.ext e11).app (p := (cut ws s e, e)) (e11 _ _ hl10) hp2 n2w n2r
            have hW11 := (hW10.ext e11).putR (o := .lst (ts.map V.ref ++ [.ref p1] ++ [.ref p2])) hwr
            have ex11 : Ex H (upd H11 pr (.lst (ts.map V.ref ++ [.ref p1] ++ [.ref p2]))) := Ex.mut (ex10.trans e11) hpr0
            generalize upd H11 pr (.lst (ts.map V.ref ++ [.ref p1] ++ [.ref p2])) = G2 at hR11 hW11 ex11
            have hRd : (R ++ [(s, cut ws s e)] ++ [(cut ws s e, e)]).drop (t + 1) = R.drop (t + 1) ++ [(s, cut ws s e), (cut ws s e, e)] := by
              rw [List.append_assoc, List.drop_append_of_le_length (by omega)]
              rfl
            refine s_forR2 (lo := (s : Int)) (n := (e : Int)) (ea2 (ev_var rfl) (ev_var rfl)) ⟨by omega, by omega, by omega, by omega⟩
              (fun j σ' H' => ∃ x : Option V, σ' = [some (.ref pt), some (.int (n : Int)), some (.ref pw), x, some (.ref pr), some (.int (t : Int)), some (.int (s : Int)), some (.int (e : Int)), some (.int (cut ws s e : Nat)), y] ∧ Ex H H' ∧ WL H' pw pr (upW cs n s (cut ws s e) j) ∧ RL H' pw pr (R ++ [(s, cut ws s e)] ++ [(cut ws s e, e)]))
              (fun H12 e12 => ⟨_, rfl, ex11.trans e12, by rw [upW_zero hcn]; exact hW11.ext e12, hR11.ext e12⟩) ?_ ?_
            · rintro j σ' H12 hj ⟨x, rfl, ex12, hW12, hR12⟩
              have hjn : s + j < n := by omega
              have hk2 : (s : Int) + (j : Int) = ((s + j : Nat) : Int) := by push_cast; rfl
              rw [hk2]
              obtain ⟨rs2, i1, i2, i3⟩ := hW12
              have hW12 : WL H12 pw pr (upW cs n s (cut ws s e) j) := ⟨rs2, i1, i2, i3⟩
              rw [upW_len] at i2
              have hr2 : rs2[s + j]? = some rs2[s + j] := List.getElem?_eq_getElem (by omega)
              obtain ⟨j1, j2, j3⟩ := i3 (s + j) _ _ hr2 (upW_at hjn)
              have hcb : (cs.getD (s + j) []).length ≤ 1000 := by
                have h5 := (hok.a (s, e) List.mem_cons_self).2.2 (s + j) (by show s ≤ s + j; omega) (by show s + j < e; omega)
                have h6 := congrArg List.length h5
                rw [List.length_append] at h6
                have h7 := path_len ws 0 n (s + j)
                omega
              have hbit : (if decide ((cut ws s e : Int) ≤ ((s + j : Nat) : Int)) then (1 : Int) else 0) = if cut ws s e ≤ s + j then 1 else 0 := by
                by_cases z : cut ws s e ≤ s + j
                · rw [if_pos z, decide_eq_true (by omega)]; rfl
                · rw [if_neg z, decide_eq_false (by omega)]; rfl
              have hbitE : Ev (tCB (fun xs H Q => (∃ i, xs = [.int i] ∧ Q (.int i) H) ∨ ∃ k, xs = [.bl k] ∧ Q (.int (if k then 1 else 0)) H) (tCons (tOp (rI0 fun i j => .bl (decide (j ≤ i))) (tVar 3) (tVar 8)) tNil)) [some (.ref pt), some (.int (n : Int)), some (.ref pw), some (.int ((s + j : Nat) : Int)), some (.ref pr), some (.int (t : Int)), some (.int (s : Int)), some (.int (e : Int)), some (.int (cut ws s e : Nat)), y] H12 (.int (if cut ws s e ≤ s + j then 1 else 0)) :=
                ev_is (ev_cb (vs := [.bl (decide ((cut ws s e : Int) ≤ ((s + j : Nat) : Int)))]) (ea1 (ev_ge2 (ev_var (v := .int ((s + j : Nat) : Int)) rfl) (ev_var (v := .int (cut ws s e : Nat)) rfl))) rc_intB) (congrArg V.int hbit)
              refine s_setLL (j := s + j) (ys := (cs.getD (s + j) [] ++ [if cut ws s e ≤ s + j then 1 else 0]).map V.int) i1 (by
                rw [List.map_append]
                exact el_cat3 (ev_op (ev_var (i := 2) rfl) (ev_var (i := 3) (v := .int ((s + j : Nat) : Int)) rfl) (rv_ixL (sq_of i1) (atI_nat (by rw [List.getElem?_map, hr2]; rfl)))) j1 (el_lst (ea1 hbitE) (by show 1 ≤ 100000; decide)) (by rw [List.length_map, List.length_map, List.length_singleton]; omega)) (ev_var rfl) (ev_var rfl) (by rw [List.length_map]; omega) fun p3 H13 hp3 e13 h3 => ?_
              have n3w : p3 ≠ pw := fun z => by rw [z, i1] at hp3; cases hp3
              have n3r : p3 ≠ pr := fun z => by
                obtain ⟨ts2, k1, _⟩ := hR12
                rw [z, k1] at hp3; cases hp3
              have hset := (hW12.ext e13).set (j := s + j) (e13 _ _ i1) h3 n3w n3r
              rw [upW_succ hjn] at hset
              exact ⟨_, rfl, Ex.mut (ex12.trans e13) hpw, hset, (hR12.ext e13).putW hwr⟩
            · rintro σ' H12 ⟨x, rfl, ex12, hW12, hR12⟩
              have hj : ((e : Int) - (s : Int)).toNat = e - s := by omega
              rw [hj] at hW12
              refine ⟨_, _, _, _, _, _, _, _, rfl, ex12, hW12, hR12, upW_len _ _ _ _ _, ?_, ?_⟩
              · rw [hRd]
                refine hok.cut hup fun k => ?_
                rw [upW_get hcn]
                have : (s ≤ k ∧ k < s + (e - s) ∧ k < n) ↔ (s ≤ k ∧ k < e) := by omega
                by_cases z : s ≤ k ∧ k < e
                · rw [if_pos z, if_pos (this.mpr z)]
                · rw [if_neg z, if_neg (fun x => z (this.mp x))]
              · rw [hRd, cnt_app, cnt_cons, cnt_cons, List.length_append, List.length_append, List.length_singleton, List.length_singleton]
                show R.length + 1 + 1 + (cnt (R.drop (t + 1)) + (2 * (cut ws s e - s) - 2 + (2 * (e - cut ws s e) - 2 + 0))) = 2 * n - 1
                omega
      · have hge := of_decide_eq_false hb
        have h0 : R.drop t = [] := List.drop_of_length_le (by omega)
        have h1 : R.drop (t + 1) = [] := List.drop_of_length_le (by omega)
        rw [h0] at hok hct
        exact ⟨R, cs, _, _, _, _, _, _, rfl, ex4.trans e5, hW4.ext e5, hR4.ext e5, hcn, by rw [h1]; exact hok, by rw [h1]; exact hct⟩
    · rintro σ' H4 ⟨R, cs, a, b, c, d, e, f, rfl, ex4, hW4, hR4, hcn, hok, hct⟩
      rw [Int.toNat_natCast] at hok hct
      have h0 : R.drop (2 * n) = [] := List.drop_of_length_le (by omega)
      rw [h0] at hok
      have hcs : cs = wordsR ws 0 n [] := by
        refine List.ext_getElem? fun k => ?_
        by_cases z : k < n
        · have := hok.b k z fun p hp => absurd hp List.not_mem_nil
          rw [List.getD_eq_getElem?_getD, List.getElem?_eq_getElem (by omega)] at this
          rw [List.getElem?_eq_getElem (by omega)]
          unfold wordsR
          rw [List.getElem?_map, List.getElem?_range (by omega)]
          show some _ = some ([] ++ path ws 0 n (0 + k))
          rw [List.nil_append, Nat.zero_add]
          exact congrArg some this
        · rw [List.getElem?_eq_none (by omega), List.getElem?_eq_none (by simp [wordsR]; omega)]
      obtain ⟨rs4, i1, i2, i3⟩ := hW4
      exact s_ret (ev_var rfl) fun H5 e5 => q pw H5 hpw (ex4.trans e5) ⟨rs4, e5 _ _ i1, by rw [i2, hcs], fun j r c ha hc2 => e5 _ _ (i3 j r c ha (by rw [hcs]; exact hc2)).1⟩
end
end K07
set_option Elab.async false
set_option linter.all false
set_option maxRecDepth 100000
set_option maxHeartbeats 2000000
/-! what all trees over a row cost -/
namespace M07
def af (ws : List Int) : Nat → Nat → Nat → List Int
  | 0, _, _ => []
  | f + 1, s, z => if z ≤ 1 then [0] else (List.range (z - 1)).flatMap fun j => (af ws f s (j + 1)).flatMap fun a => (af ws f (s + (j + 1)) (z - (j + 1))).map fun b => a + b + sm ws s (s + z)
theorem af_succ (ws : List Int) (f s z : Nat) : af ws (f + 1) s z = if z ≤ 1 then [0] else (List.range (z - 1)).flatMap fun j => (af ws f s (j + 1)).flatMap fun a => (af ws f (s + (j + 1)) (z - (j + 1))).map fun b => a + b + sm ws s (s + z) := rfl
theorem flatMap_congr2 {α β : Type} {l : List α} {f g : α → List β} (h : ∀ x ∈ l, f x = g x) : l.flatMap f = l.flatMap g := by
  induction l with
  | nil => rfl
  | cons x r ih =>
    rw [List.flatMap_cons, List.flatMap_cons, h x List.mem_cons_self, ih fun y hy => h y (List.mem_cons_of_mem _ hy)]
theorem af_fuel (ws : List Int) : ∀ (f g s z : Nat), 1 ≤ z → z ≤ f → z ≤ g → af ws f s z = af ws g s z
  | 0, _, _, _, h, h1, _ => by omega
  | _, 0, _, _, h, _, h1 => by omega
  | f + 1, g + 1, s, z, h, h1, h2 => by
    rw [af_succ, af_succ]
    by_cases y : z ≤ 1
    · rw [if_pos y, if_pos y]
    · rw [if_neg y, if_neg y]
      refine flatMap_congr2 fun j hj => ?_
      have := List.mem_range.mp hj
      rw [af_fuel ws f g s (j + 1) (by omega) (by omega) (by omega), af_fuel ws f g (s + (j + 1)) (z - (j + 1)) (by omega) (by omega) (by omega)]
def allT (ws : List Int) (s z : Nat) : List Int := af ws z s z
theorem all_one (ws : List Int) (s : Nat) : allT ws s 1 = [0] := rfl
theorem all_up {ws : List Int} {s z : Nat} (h : 2 ≤ z) : allT ws s z = (List.range (z - 1)).flatMap fun j => (allT ws s (j + 1)).flatMap fun a => (allT ws (s + (j + 1)) (z - (j + 1))).map fun b => a + b + sm ws s (s + z) := by
  unfold allT
  obtain ⟨f, hf⟩ : ∃ f, z = f + 1 := ⟨z - 1, by omega⟩
  subst hf
  rw [af_succ, if_neg (by omega)]
  refine flatMap_congr2 fun j hj => ?_
  have := List.mem_range.mp hj
  rw [af_fuel ws f (j + 1) s (j + 1) (by omega) (by omega) (Nat.le_refl _), af_fuel ws f (f + 1 - (j + 1)) (s + (j + 1)) (f + 1 - (j + 1)) (by omega) (by omega) (Nat.le_refl _)]
theorem all_val {ws : List Int} : ∀ (d s z : Nat), z ≤ d → 1 ≤ z → (∀ x ∈ allT ws s z, val ws s (s + z) ≤ x) ∧ val ws s (s + z) ∈ allT ws s z
  | 0, s, z, h, h1 => by omega
  | d + 1, s, z, h, h1 => by
    by_cases y : z = 1
    · subst y
      rw [all_one, val_one (Nat.le_refl _)]
      exact ⟨fun x hx => by rw [List.mem_singleton.mp hx]; exact Int.le_refl _, List.mem_cons_self⟩
    · have h2 : 2 ≤ z := by omega
      rw [all_up h2]
      constructor
      · intro x hx
        obtain ⟨j, hj, hx⟩ := List.mem_flatMap.mp hx
        obtain ⟨a, ha, hx⟩ := List.mem_flatMap.mp hx
        obtain ⟨b, hb, rfl⟩ := List.mem_map.mp hx
        have hj2 := List.mem_range.mp hj
        have i1 := (all_val d s (j + 1) (by omega) (by omega)).1 a ha
        have i2 := (all_val d (s + (j + 1)) (z - (j + 1)) (by omega) (by omega)).1 b hb
        rw [show s + (j + 1) + (z - (j + 1)) = s + z by omega] at i2
        have := val_le (ws := ws) (s := s) (k := s + (j + 1)) (e := s + z) (by omega) (by omega)
        omega
      · have hc := cut_in (ws := ws) (show s + 1 < s + z by omega)
        obtain ⟨j, hj⟩ : ∃ j, cut ws s (s + z) = s + (j + 1) := ⟨cut ws s (s + z) - s - 1, by omega⟩
        have i1 := (all_val (ws := ws) d s (j + 1) (by omega) (by omega)).2
        have i2 := (all_val (ws := ws) d (s + (j + 1)) (z - (j + 1)) (by omega) (by omega)).2
        rw [show s + (j + 1) + (z - (j + 1)) = s + z by omega] at i2
        refine List.mem_flatMap.mpr ⟨j, List.mem_range.mpr (by omega), List.mem_flatMap.mpr ⟨_, i1, List.mem_map.mpr ⟨_, i2, ?_⟩⟩⟩
        rw [val_cut (show s + 1 < s + z by omega), hj]
        omega
theorem all_min {ws : List Int} {s z : Nat} (h : 1 ≤ z) : minL (allT ws s z) = val ws s (s + z) := by
  obtain ⟨h1, h2⟩ := all_val (ws := ws) z s z (Nat.le_refl _) h
  have h3 := minL_le h2
  have h4 := h1 _ (minL_mem (fun e => by rw [e] at h2; cases h2))
  omega
theorem all_ne {ws : List Int} {s z : Nat} (h : 1 ≤ z) : allT ws s z ≠ [] := fun e => by
  have := (all_val (ws := ws) z s z (Nat.le_refl _) h).2
  rw [e] at this
  cases this
theorem flat_len {α β : Type} {f : α → List β} {c : Nat} : ∀ (l : List α), (∀ x ∈ l, (f x).length ≤ c) → (l.flatMap f).length ≤ l.length * c
  | [], _ => by simp
  | x :: r, h => by
    rw [List.flatMap_cons, List.length_append, List.length_cons, Nat.add_mul, Nat.one_mul]
    have h1 := flat_len r fun y hy => h y (List.mem_cons_of_mem _ hy)
    have h2 := h x List.mem_cons_self
    omega
theorem all_len {ws : List Int} : ∀ (d s z : Nat), z ≤ d → 1 ≤ z → z ≤ 6 → (allT ws s z).length ≤ 5 ^ (z - 1)
  | 0, s, z, h, h1, _ => by omega
  | d + 1, s, z, h, h1, h6 => by
    by_cases y : z = 1
    · subst y
      rw [all_one]
      exact Nat.le_refl _
    · have h2 : 2 ≤ z := by omega
      rw [all_up h2]
      have hb : ∀ j ∈ List.range (z - 1), ((allT ws s (j + 1)).flatMap fun a => (allT ws (s + (j + 1)) (z - (j + 1))).map fun b => a + b + sm ws s (s + z)).length ≤ 5 ^ (z - 2) := fun j hj => by
        have hj2 := List.mem_range.mp hj
        have i1 := all_len (ws := ws) d s (j + 1) (by omega) (by omega) (by omega)
        have i2 := all_len (ws := ws) d (s + (j + 1)) (z - (j + 1)) (by omega) (by omega) (by omega)
        have h3 := flat_len (f := fun a => (allT ws (s + (j + 1)) (z - (j + 1))).map fun b => a + b + sm ws s (s + z)) (c := 5 ^ (z - (j + 1) - 1)) (allT ws s (j + 1)) fun a ha => by rw [List.length_map]; exact i2
        have h4 : (allT ws s (j + 1)).length * 5 ^ (z - (j + 1) - 1) ≤ 5 ^ (j + 1 - 1) * 5 ^ (z - (j + 1) - 1) := Nat.mul_le_mul_right _ i1
        rw [← Nat.pow_add, show j + 1 - 1 + (z - (j + 1) - 1) = z - 2 by omega] at h4
        exact Nat.le_trans h3 h4
      have h5 := flat_len _ hb
      rw [List.length_range] at h5
      have h7 : (z - 1) * 5 ^ (z - 2) ≤ 5 * 5 ^ (z - 2) := Nat.mul_le_mul_right _ (by omega)
      have h8 : 5 * 5 ^ (z - 2) = 5 ^ (z - 1) := by
        rw [Nat.mul_comm, ← Nat.pow_succ]
        congr 1
        omega
      omega
end M07
set_option Elab.async false
set_option linter.all false
set_option maxRecDepth 100000
set_option maxHeartbeats 4000000
namespace K07
open PySem PySem.Spec PyProof.Rows L2 StX GX KC KQ KW Evl M07
/-! a table of lists -/
def tabA (rs : List (Nat × Nat)) (ad : Nat → Nat → Addr) : List (List Key × V) := rs.map fun p => (key p.1 (p.2 - p.1), V.ref (ad p.1 p.2))
theorem tabA_some {ad : Nat → Nat → Addr} : ∀ {rs : List (Nat × Nat)} {s e : Nat}, (∀ p ∈ rs, p.1 ≤ p.2) → s ≤ e → (s, e) ∈ rs → valV (tabA rs ad) (key s (e - s)) = some (.ref (ad s e))
  | [], _, _, _, _, h => by cases h
  | p :: r, s, e, ho, hse, h => by
    have hp := ho p List.mem_cons_self
    by_cases z : key p.1 (p.2 - p.1) = key s (e - s)
    · obtain ⟨h1, h2⟩ := key_inj z
      have h3 : p.2 = e := by omega
      show valV ((key p.1 (p.2 - p.1), V.ref (ad p.1 p.2)) :: tabA r ad) _ = _
      rw [valV_pos z, h1, h3]
    · show valV ((key p.1 (p.2 - p.1), V.ref (ad p.1 p.2)) :: tabA r ad) _ = _
      rw [valV_neg z]
      rcases List.mem_cons.mp h with y | y
      · exact absurd (by rw [← y]) z
      · exact tabA_some (fun q hq => ho q (List.mem_cons_of_mem _ hq)) hse y
theorem tabA_none {ad : Nat → Nat → Addr} : ∀ {rs : List (Nat × Nat)} {s e : Nat}, (∀ p ∈ rs, p.1 ≤ p.2) → s ≤ e → (s, e) ∉ rs → valV (tabA rs ad) (key s (e - s)) = none
  | [], _, _, _, _, _ => rfl
  | p :: r, s, e, ho, hse, h => by
    have hp := ho p List.mem_cons_self
    have z : key p.1 (p.2 - p.1) ≠ key s (e - s) := fun z => by
      obtain ⟨h1, h2⟩ := key_inj z
      refine h ?_
      rw [show (s, e) = p from by rw [show p = (p.1, p.2) from rfl]; congr 1 <;> omega]
      exact List.mem_cons_self
    show valV ((key p.1 (p.2 - p.1), V.ref (ad p.1 p.2)) :: tabA r ad) _ = _
    rw [valV_neg z]
    exact tabA_none (fun q hq => ho q (List.mem_cons_of_mem _ hq)) hse fun y => h (List.mem_cons_of_mem _ y)
def updA (ad : Nat → Nat → Addr) (s e : Nat) (x : Addr) : Nat → Nat → Addr := fun a b => if a = s ∧ b = e then x else ad a b
theorem tabA_put {ad : Nat → Nat → Addr} {rs : List (Nat × Nat)} {s e : Nat} {x : Addr} (ho : ∀ p ∈ rs, p.1 ≤ p.2) (hse : s ≤ e) (h : (s, e) ∉ rs) : putK (tabA rs ad) (key s (e - s)) (.ref x) = tabA (rs ++ [(s, e)]) (updA ad s e x) := by
  rw [putK_new _ (tabA_none ho hse h)]
  unfold tabA
  rw [List.map_append]
  congr 1
  · refine List.map_congr_left fun p hp => ?_
    unfold updA
    rw [if_neg fun y => h (by rw [← y.1, ← y.2]; exact hp)]
  · show [(key s (e - s), V.ref x)] = [(key s (e - s), V.ref (updA ad s e x s e))]
    unfold updA
    rw [if_pos ⟨rfl, rfl⟩]
theorem rg_ord {n d i : Nat} : ∀ p ∈ rg n d i, p.1 ≤ p.2 := fun p hp => by
  have := mem_rg.mp (show (p.1, p.2) ∈ rg n d i from hp)
  omega
/-- the lists stand there -/
def LsA (ws : List Int) (rs : List (Nat × Nat)) (ad : Nat → Nat → Addr) (H : Hp) : Prop := ∀ p ∈ rs, H (ad p.1 p.2) = some (.lst ((allT ws p.1 (p.2 - p.1)).map V.int))
theorem LsA.ext {ws : List Int} {rs : List (Nat × Nat)} {ad : Nat → Nat → Addr} {H H' : Hp} (e : Ex H H') (h : LsA ws rs ad H) : LsA ws rs ad H' := fun p hp => e _ _ (h p hp)
theorem LsA.snoc {ws : List Int} {rs : List (Nat × Nat)} {ad : Nat → Nat → Addr} {H : Hp} {s e : Nat} {x : Addr} (h : LsA ws rs ad H) (hno : (s, e) ∉ rs) (hx : H x = some (.lst ((allT ws s (e - s)).map V.int))) : LsA ws (rs ++ [(s, e)]) (updA ad s e x) H := fun p hp => by
  unfold updA
  rcases List.mem_append.mp hp with y | y
  · rw [if_neg fun z => hno (by rw [← z.1, ← z.2]; exact y)]
    exact h p y
  · rw [List.mem_singleton.mp y]
    show H (if s = s ∧ e = e then x else ad s e) = _
    rw [if_pos ⟨rfl, rfl⟩]
    exact hx
theorem takeF_len {α β : Type} (xs : List α) (f : α → List β) (i : Nat) : ((xs.take i).flatMap f).length ≤ (xs.flatMap f).length := by
  have : xs.flatMap f = (xs.take i).flatMap f ++ (xs.drop i).flatMap f := by rw [← List.flatMap_append, List.take_append_drop]
  rw [this, List.length_append]
  omega
/-- the cuts up to the m-th -/
def bigT (ws : List Int) (s z m : Nat) : List Int := (List.range m).flatMap fun j => (allT ws s (j + 1)).flatMap fun a => (allT ws (s + (j + 1)) (z - (j + 1))).map fun b => a + b + sm ws s (s + z)
theorem bigT_all {ws : List Int} {s z : Nat} (h : 2 ≤ z) : bigT ws s z (z - 1) = allT ws s z := (all_up h).symm
theorem bigT_succ (ws : List Int) (s z m : Nat) : bigT ws s z (m + 1) = bigT ws s z m ++ (allT ws s (m + 1)).flatMap fun a => (allT ws (s + (m + 1)) (z - (m + 1))).map fun b => a + b + sm ws s (s + z) := by
  unfold bigT
  rw [List.range_succ, List.flatMap_append]
  simp
theorem bigT_le {ws : List Int} {s z m : Nat} (h : 2 ≤ z) (hz : z ≤ 6) (hm : m ≤ z - 1) : (bigT ws s z m).length ≤ 3125 := by
  have h1 : (bigT ws s z m).length ≤ (bigT ws s z (z - 1)).length := by
    unfold bigT
    have := takeF_len (List.range (z - 1)) (fun j => (allT ws s (j + 1)).flatMap fun a => (allT ws (s + (j + 1)) (z - (j + 1))).map fun b => a + b + sm ws s (s + z)) m
    rwa [List.take_range, Nat.min_eq_left hm] at this
  rw [bigT_all h] at h1
  have h2 := all_len (ws := ws) z s z (Nat.le_refl _) (by omega) hz
  have h3 : 5 ^ (z - 1) ≤ 5 ^ 5 := Nat.pow_le_pow_right (by decide) (by omega)
  have h4 : (5 : Nat) ^ 5 = 3125 := by decide
  omega
end K07
set_option Elab.async false
set_option linter.all false
set_option maxRecDepth 100000
set_option maxHeartbeats 4000000
namespace K07
open PySem PySem.Spec PyProof.Rows L2 StX GX KC KQ KW Evl M07
section
variable {P : Program} {w : World} {K : PySem.W.Frag} {mg : Str → Option Value} {base : Heap} {σ : L2.St} {H H' : Hp} {ta tb tc te td tl : TE} {D : Ends} {tz : TS}
theorem q_mid {t : TT} {s1 tz : TS} {b : Bool} {D : Ends} (Mid : L2.St → Hp → Prop) (h : EvT t σ H b) (h1 : b = true → ∀ H1, Ex H H1 → ∀ D' : Ends, (∀ σ' H', Mid σ' H' → D'.nx σ' H') → s1 D' σ H1) (h2 : b = false → ∀ H1, Ex H H1 → Mid σ H1) (h3 : ∀ σ' H', Mid σ' H' → tz D σ' H') : tSeq (tIfS t s1 tNext) tz D σ H :=
  q_when h (fun hb H1 e1 => h1 hb H1 e1 _ fun σ' H' m => h3 σ' H' m) (fun hb H1 e1 => h3 _ _ (h2 hb H1 e1))
def spTrees (K : PySem.W.Frag) : Sp := fun vs H Q _ => ∃ (l : Addr) (ws : List Int), vs = [.ref l] ∧ SqL K H l (ws.map V.int) ∧ 1 ≤ ws.length ∧ ws.length ≤ 6 ∧ RetV (.int (val ws 0 ws.length)) H Q
theorem ok_law_trees {f : Addr} {fd : FuncData} {k : Nat} (F : Fun K "_law_trees" "_law_trees" s_law_trees f fd) (B : Bs mg) : FnOk P w K mg base CX0 (k + 1) f fd ["weights"] (spTrees K) := by
  refine F.ok sc_law_trees (fun vs H Q E h => ?_) (fun cdv A outer s0 H vs Q E hr h => ?_)
  · obtain ⟨l, ws, rfl, _⟩ := h
    rfl
  · obtain ⟨l, ws, rfl, hs, h1, hl, q⟩ := h
    have hu := units1 hr
    refine ⟨_, (pss_cons (ps_set (i := 1) sc_law_trees.nd rfl (Or.inl rfl) (pe_callB call_len_seq (by rfl) B.len PySem.boot_len (pa_cons (pv 0) pa_nil)))
      (pss_cons (ps_set (i := 2) sc_law_trees.nd rfl (Or.inl rfl) (pe_dnewX (P := P) (w := w) (K := K) ⟨rfl, rfl, rfl⟩))
      (pss_cons (ps_for PassesOwn.never rfl (pi_range2 (by rfl) B.range (pa_cons pe_int (pa_cons (pe_op op_add (pv 1) pe_int) pa_nil))) (pg_name (i := 3) sc_law_trees.nd rfl (Or.inl rfl)) (pss_one (ps_for PassesOwn.never rfl (pi_range1 (by rfl) B.range (pa_cons (pe_op op_add (pe_op op_sub (pv 1) (pv 3)) pe_int) pa_nil)) (pg_name (i := 4) sc_law_trees.nd rfl (Or.inl rfl)) (pss_cons (ps_set (i := 5) sc_law_trees.nd rfl (Or.inl rfl) (pe_lst pa_nil))
      (pss_cons (ps_if (pt_cmpR op_eq (pv 3) pe_int (nomark _)) (pss_one (ps_set (i := 5) sc_law_trees.nd rfl (Or.inl rfl) (pe_lst (pa_cons pe_int pa_nil)))) pss_nil)
      (pss_cons (ps_for PassesOwn.never rfl (pi_range2 (by rfl) B.range (pa_cons pe_int (pa_cons (pv 3) pa_nil))) (pg_name (i := 6) sc_law_trees.nd rfl (Or.inl rfl)) (pss_one (ps_for PassesOwn.never rfl (pi_list (pe_dgx (P := P) (w := w) (K := K) ⟨rfl, rfl, rfl⟩ hu (pv 2) (pe_tup (pa_cons (pv 4) (pa_cons (pv 6) pa_nil))) (fun _ _ => rfl))) (pg_name (i := 7) sc_law_trees.nd rfl (Or.inl rfl)) (pss_one (ps_for PassesOwn.never rfl (pi_list (pe_dgx (P := P) (w := w) (K := K) ⟨rfl, rfl, rfl⟩ hu (pv 2) (pe_tup (pa_cons (pe_op op_add (pv 4) (pv 6)) (pa_cons (pe_op op_sub (pv 3) (pv 6)) pa_nil))) (fun _ _ => rfl))) (pg_name (i := 8) sc_law_trees.nd rfl (Or.inl rfl)) (pss_one (ps_expr (pe_bm PySem.F.plainAttrs_list PySem.F.slot_list_append PySem.F.type_list_append mt_append (pv 5) (pa_cons (pe_op op_add (pe_op op_add (pv 7) (pv 8)) (pe_callB (cr_sum rfl) (by rfl) B.sum (by decide +kernel) (pa_cons (pe_slice sl_list (pv 0) (po_some (pv 4)) (po_some (pe_op op_add (pv 4) (pv 3)))) pa_nil))) pa_nil)))))))))
      (pss_one (ps_dputX (P := P) (w := w) (K := K) ⟨rfl, rfl, rfl⟩ hu (pv 2) (pe_tup (pa_cons (pv 4) (pa_cons (pv 3) pa_nil))) (pv 5) rfl))))))))
      (pss_one (ps_ret (pe_callB (cr_min rfl) (by rfl) B.min (by decide +kernel) (pa_cons (pe_dgx (P := P) (w := w) (K := K) ⟨rfl, rfl, rfl⟩ hu (pv 2) (pe_tup (pa_cons pe_int (pa_cons (pv 1) pa_nil))) (fun _ _ => rfl)) pa_nil))))))), ?_⟩
    obtain ⟨n, hn⟩ : ∃ n, n = ws.length := ⟨_, rfl⟩
    rw [← hn] at h1 hl q
    refine q_asg (v := .int (n : Int)) (ev_is (len_is (ev_var rfl) hs) (by rw [hn])) fun H1 e1 => ?_
    refine q_dnew (K := K) fun pt H2 hpt e2 hd2 => ?_
    have e02 := e1.trans e2
    have hpt0 := fresh_back e1 hpt
    refine q_forR2 (lo := 1) (n := ((n + 1 : Nat) : Int)) (ea2 ev_c (ev_is (ev_add (ev_var (v := .int (n : Int)) rfl) ev_c) (by push_cast; rfl))) ⟨by decide, by decide, by omega, by omega⟩
      (fun i σ' H' => ∃ (ad : Nat → Nat → Addr) (x3 x4 x5 x6 x7 x8 : Option V), σ' = [some (.ref l), some (.int (n : Int)), some (.ref pt), x3, x4, x5, x6, x7, x8] ∧ Ex H H' ∧ DAt P w K H' pt (tabA (rg n i 0) ad) ∧ LsA ws (rg n i 0) ad H')
      (fun H4 e4 => ⟨fun _ _ => pt, none, none, none, none, none, none, rfl, e02.trans e4, hd2.ext e4, fun p hp => by simp [rg] at hp⟩) ?_ ?_
    · rintro i σ' H4 hi ⟨ad, x3, x4, x5, x6, x7, x8, rfl, ex4, hd4, hL4⟩
      have hin : i + 1 ≤ n := by omega
      refine s_forR1 (n := ((n - i : Nat) : Int)) (ea1 (ev_is (ev_add (ev_sub (ev_var (v := .int (n : Int)) rfl) (ev_var (v := .int ((1 : Int) + (i : Int))) rfl)) ev_c) (by congr 1; omega))) ⟨by omega, by omega⟩
        (fun j σ' H' => ∃ (ad : Nat → Nat → Addr) (x4 x5 x6 x7 x8 : Option V), σ' = [some (.ref l), some (.int (n : Int)), some (.ref pt), some (.int ((1 : Int) + (i : Int))), x4, x5, x6, x7, x8] ∧ Ex H H' ∧ DAt P w K H' pt (tabA (rg n i j) ad) ∧ LsA ws (rg n i j) ad H')
        (fun H5 e5 => ⟨ad, x4, x5, x6, x7, x8, rfl, ex4.trans e5, hd4.ext e5, hL4.ext e5⟩) ?_ ?_
      · rintro j σ' H5 hj ⟨ad, x4, x5, x6, x7, x8, rfl, ex5, hd5, hL5⟩
        have hj2 : j + (i + 1) ≤ n := by omega
        refine q_asgL (el_lst ea_nil (by decide)) fun pf0 H6 hpf0 e6 h6 => ?_
        refine q_mid (fun σ' H' => ∃ pf : Addr, σ' = [some (.ref l), some (.int (n : Int)), some (.ref pt), some (.int ((1 : Int) + (i : Int))), some (.int (j : Int)), some (.ref pf), x6, x7, x8] ∧ Ex H5 H' ∧ H5 pf = none ∧ H' pf = some (.lst ((if i = 0 then [0] else ([] : List Int)).map V.int))) (et_is (b := decide (i = 0)) (et_test (ev_eq (ev_var (v := .int ((1 : Int) + (i : Int))) rfl) ev_c)) (decide_eq_decide.mpr (by omega))) (fun hb H7 e7 D' nx => ?_) (fun hb H7 e7 => ⟨pf0, rfl, e6.trans e7, hpf0, by rw [if_neg (of_decide_eq_false hb)]; exact e7 _ _ h6⟩) ?_
        · refine s_asgL (xs := [V.int 0]) (el_lst (ea1 ev_c) (by decide)) fun pf H8 hpf e8 h8 => nx _ _ ⟨pf, rfl, (e6.trans e7).trans e8, fresh_back (e6.trans e7) hpf, by rw [if_pos (of_decide_eq_true hb)]; exact h8⟩
        rintro σ7 H7 ⟨pf, rfl, e57, hpf, h7⟩
        have hft : pf ≠ pt := fun z => by
          obtain ⟨φ, hx⟩ := hd5.isX
          rw [z, hx] at hpf; cases hpf
        refine q_forR2 (lo := 1) (n := ((i + 1 : Nat) : Int)) (ea2 ev_c (ev_is (ev_var (v := .int ((1 : Int) + (i : Int))) rfl) (by push_cast; rw [Int.add_comm]))) ⟨by decide, by decide, by omega, by omega⟩
          (fun m σ' H' => ∃ (x6 x7 x8 : Option V), σ' = [some (.ref l), some (.int (n : Int)), some (.ref pt), some (.int ((1 : Int) + (i : Int))), some (.int (j : Int)), some (.ref pf), x6, x7, x8] ∧ Ex H5 H' ∧ H' pf = some (.lst ((if i = 0 then [0] else bigT ws j (i + 1) m).map V.int)))
          (fun H8 e8 => ⟨x6, x7, x8, rfl, e57.trans e8, by
            have := e8 _ _ h7
            by_cases z : i = 0
            · rw [if_pos z] at this ⊢; exact this
            · rw [if_neg z] at this ⊢; exact this⟩) ?_ ?_
        · rintro m σ' H8 hm ⟨x6, x7, x8, rfl, e8, h8⟩
          have hmi : m < i := by omega
          rw [if_neg (show ¬ i = 0 by omega)] at h8
          have hk : (1 : Int) + (m : Int) = ((m + 1 : Nat) : Int) := by push_cast; rw [Int.add_comm]
          rw [hk]
          have mA : (j, j + (m + 1)) ∈ rg n i j := mem_rg.mpr (.inl ⟨by omega, by omega, by omega⟩)
          have mB : (j + (m + 1), j + (i + 1)) ∈ rg n i j := mem_rg.mpr (.inl ⟨by omega, by omega, by omega⟩)
          have vA := tabA_some (ad := ad) rg_ord (by omega) mA
          have vB := tabA_some (ad := ad) rg_ord (by omega) mB
          have lA := hL5 _ mA
          have lB := hL5 _ mB
          dsimp only at lA lB
          rw [show j + (m + 1) - j = m + 1 by omega] at vA lA
          rw [show j + (i + 1) - (j + (m + 1)) = i + 1 - (m + 1) by omega] at vB lB
          obtain ⟨g, hg⟩ : ∃ g : Int → List Int, g = fun a => (allT ws (j + (m + 1)) (i + 1 - (m + 1))).map fun b => a + b + sm ws j (j + (i + 1)) := ⟨_, rfl⟩
          have hbs : bigT ws j (i + 1) (m + 1) = bigT ws j (i + 1) m ++ (allT ws j (m + 1)).flatMap g := by rw [bigT_succ, hg]
          have hble : (bigT ws j (i + 1) m).length + ((allT ws j (m + 1)).flatMap g).length ≤ 3125 := by
            rw [← List.length_append, ← hbs]
            exact bigT_le (by omega) (by omega) (by omega)
          refine s_forLn (xs := (allT ws j (m + 1)).map V.int) (ev_dgxU (ev_var rfl) (eu_tup (ea2 (ev_var (v := .int (j : Int)) rfl) (ev_var (v := .int ((m + 1 : Nat) : Int)) rfl)) (by show 2 ≤ 100000; decide)) (key_v j (m + 1)) (hd5.ext e8) vA) (sq_of (e8 _ _ lA))
            (fun ia σ' H' => ∃ (x7 x8 : Option V), σ' = [some (.ref l), some (.int (n : Int)), some (.ref pt), some (.int ((1 : Int) + (i : Int))), some (.int (j : Int)), some (.ref pf), some (.int ((m + 1 : Nat) : Int)), x7, x8] ∧ Ex H5 H' ∧ H' pf = some (.lst ((bigT ws j (i + 1) m ++ ((allT ws j (m + 1)).take ia).flatMap g).map V.int)))
            (fun H9 e9 => ⟨x7, x8, rfl, e8.trans e9, by rw [List.take_zero, List.flatMap_nil, List.append_nil]; exact e9 _ _ h8⟩) (fun ia σ' H' _ ⟨_, _, _, e9, _⟩ => sq_of (e9 _ _ lA)) ?_ ?_
          · rintro ia va σ' H9 hva ⟨x7, x8, rfl, e9, h9⟩
            have hia : ia < (allT ws j (m + 1)).length := by
              have := (List.getElem?_eq_some_iff.mp hva).1
              rwa [List.length_map] at this
            rw [int_at hia] at hva
            obtain rfl := Option.some.inj hva
            obtain ⟨a, ha⟩ : ∃ a, a = (allT ws j (m + 1)).getD ia 0 := ⟨_, rfl⟩
            rw [← ha]
            have htk : (allT ws j (m + 1)).take (ia + 1) = (allT ws j (m + 1)).take ia ++ [a] := by
              rw [← List.take_append_getElem hia, ha, List.getD_eq_getElem?_getD, List.getElem?_eq_getElem hia]
              rfl
            have hle2 := takeF_len (allT ws j (m + 1)) g (ia + 1)
            rw [htk, List.flatMap_append, List.length_append, List.flatMap_cons, List.flatMap_nil, List.append_nil] at hle2
            have hgl : (g a).length = (allT ws (j + (m + 1)) (i + 1 - (m + 1))).length := by rw [hg]; exact List.length_map _
            refine s_forLn (xs := (allT ws (j + (m + 1)) (i + 1 - (m + 1))).map V.int) (ev_dgxU (ev_var rfl) (eu_tup (ea2 (ev_is (ev_add (ev_var (v := .int (j : Int)) rfl) (ev_var (v := .int ((m + 1 : Nat) : Int)) rfl)) (show V.int _ = .int ((j + (m + 1) : Nat) : Int) by push_cast; rfl)) (ev_is (ev_sub (ev_var (v := .int ((1 : Int) + (i : Int))) rfl) (ev_var (v := .int ((m + 1 : Nat) : Int)) rfl)) (show V.int _ = .int ((i + 1 - (m + 1) : Nat) : Int) by congr 1; omega))) (by show 2 ≤ 100000; decide)) (key_v (j + (m + 1)) (i + 1 - (m + 1))) (hd5.ext e9) vB) (sq_of (e9 _ _ lB))
              (fun ib σ' H' => ∃ (x8 : Option V), σ' = [some (.ref l), some (.int (n : Int)), some (.ref pt), some (.int ((1 : Int) + (i : Int))), some (.int (j : Int)), some (.ref pf), some (.int ((m + 1 : Nat) : Int)), some (.int a), x8] ∧ Ex H5 H' ∧ H' pf = some (.lst ((bigT ws j (i + 1) m ++ ((allT ws j (m + 1)).take ia).flatMap g ++ (g a).take ib).map V.int)))
              (fun H10 e10 => ⟨x8, rfl, e9.trans e10, by rw [List.take_zero, List.append_nil]; exact e10 _ _ h9⟩) (fun ib σ' H' _ ⟨_, _, e10, _⟩ => sq_of (e10 _ _ lB)) ?_ ?_
            · rintro ib vb σ' H10 hvb ⟨x8, rfl, e10, h10⟩
              have hib : ib < (allT ws (j + (m + 1)) (i + 1 - (m + 1))).length := by
                have := (List.getElem?_eq_some_iff.mp hvb).1
                rwa [List.length_map] at this
              rw [int_at hib] at hvb
              obtain rfl := Option.some.inj hvb
              have hgk : (g a).take (ib + 1) = (g a).take ib ++ [a + (allT ws (j + (m + 1)) (i + 1 - (m + 1))).getD ib 0 + sm ws j (j + (i + 1))] := by
                have hib2 : ib < (g a).length := by omega
                rw [← List.take_append_getElem hib2]
                congr 2
                subst hg
                rw [List.getElem_map, List.getD_eq_getElem?_getD, List.getElem?_eq_getElem hib]
                rfl
              refine s_app h10 (ev_var rfl) (ev_add (ev_add (ev_var (v := .int a) rfl) (ev_var (v := .int ((allT ws (j + (m + 1)) (i + 1 - (m + 1))).getD ib 0)) rfl)) (ev_slsum (s := j) (z := i + 1) (ev_var rfl) (ev_var rfl) (ev_add (ev_var (v := .int (j : Int)) rfl) (ev_var (v := .int ((1 : Int) + (i : Int))) rfl)) (by push_cast; omega) (ex_l (ex5.trans e10) hs))) (by rw [List.length_map, List.length_append, List.length_append, List.length_take]; omega) fun H11 e11 => ⟨_, rfl, Ex.mut (e10.trans e11) hpf, ?_⟩
              rw [upd_same, hgk, ← List.append_assoc, List.map_append (l₂ := [_])]
              rfl
            · rintro σ' H10 ⟨x8, rfl, e10, h10⟩
              rw [List.length_map, show (g a).take (allT ws (j + (m + 1)) (i + 1 - (m + 1))).length = g a from List.take_of_length_le (by omega)] at h10
              refine ⟨_, _, rfl, e10, ?_⟩
              rw [htk, List.flatMap_append, List.flatMap_cons, List.flatMap_nil, List.append_nil, ← List.append_assoc]
              exact h10
          · rintro σ' H9 ⟨x7, x8, rfl, e9, h9⟩
            rw [List.length_map, List.take_length, ← hbs] at h9
            exact ⟨_, _, _, rfl, e9, by rw [if_neg (show ¬ i = 0 by omega)]; exact h9⟩
        · rintro σ' H8 ⟨x6, x7, x8, rfl, e8, h8⟩
          have hm : (((i + 1 : Nat) : Int) - 1).toNat = i := by omega
          rw [hm] at h8
          have h8' : H8 pf = some (.lst ((allT ws j (i + 1)).map V.int)) := by
            by_cases z : i = 0
            · subst z
              rw [if_pos rfl] at h8
              exact h8
            · rw [if_neg z] at h8
              have := bigT_all (ws := ws) (s := j) (z := i + 1) (by omega)
              rw [Nat.add_sub_cancel] at this
              rw [← this]
              exact h8
          have hno : (j, j + i + 1) ∉ rg n i j := by rw [mem_rg]; omega
          refine s_dputU (k := key j (i + 1)) (v := .ref pf) (ev_var rfl) (ev_var rfl) (eu_tup (ea2 (ev_var (v := .int (j : Int)) rfl) (ev_is (ev_var (v := .int ((1 : Int) + (i : Int))) rfl) (show V.int _ = .int ((i + 1 : Nat) : Int) by push_cast; rw [Int.add_comm]))) (by show 2 ≤ 100000; decide)) (key_v j (i + 1)) (hd5.ext e8) (by unfold tabA; rw [List.length_map]; exact rg_len2 (by omega) (by omega) (by omega)) fun H9 H10 e9 hd10 hk10 => ?_
          have hput := tabA_put (ad := ad) (x := pf) rg_ord (show j ≤ j + i + 1 by omega) hno
          rw [show j + i + 1 - j = i + 1 by omega] at hput
          rw [hput, ← rg_snoc] at hd10
          have hL10 : LsA ws (rg n i j) ad H10 := fun p hp => by
            have h11 := hL5 p hp
            have hne : ad p.1 p.2 ≠ pt := fun z => by
              obtain ⟨φ, hx⟩ := hd5.isX
              rw [z, hx] at h11; cases h11
            rw [hk10 _ hne]
            exact (e8.trans e9) _ _ h11
          have hf10 : H10 pf = some (.lst ((allT ws j (j + i + 1 - j)).map V.int)) := by
            rw [hk10 _ hft, show j + i + 1 - j = i + 1 by omega]
            exact e9 _ _ h8'
          have := hL10.snoc hno hf10
          rw [← rg_snoc] at this
          exact ⟨_, _, _, _, _, _, rfl, ex_but ((ex5.trans e8).trans e9) hpt0 hk10, hd10, this⟩
      · rintro σ' H5 ⟨ad, x4, x5, x6, x7, x8, rfl, ex5, hd5, hL5⟩
        rw [Int.toNat_natCast, ← rg_next] at hd5 hL5
        exact ⟨ad, _, _, _, _, _, _, rfl, ex5, hd5, hL5⟩
    · rintro σ' H4 ⟨ad, x3, x4, x5, x6, x7, x8, rfl, ex4, hd4, hL4⟩
      have e9 : (((n + 1 : Nat) : Int) - 1).toNat = n := by omega
      rw [e9] at hd4 hL4
      have mA : (0, n) ∈ rg n n 0 := mem_all.mpr ⟨by omega, Nat.le_refl n⟩
      have vA := tabA_some (ad := ad) rg_ord (by omega) mA
      have lA := hL4 _ mA
      dsimp only at lA
      rw [Nat.sub_zero] at vA lA
      have hmn := all_min (ws := ws) (s := 0) (z := n) h1
      rw [Nat.zero_add] at hmn
      refine s_ret (ev_minL (ls := allT ws 0 n) (m := val ws 0 n) (ev_dgxU (ev_var rfl) (eu_tup (ea2 (ev_c (v := .int ((0 : Nat) : Int))) (ev_var (v := .int (n : Int)) rfl)) (by show 2 ≤ 100000; decide)) (key_v 0 n) hd4 vA) (sq_of lA) (by rw [← hmn]; exact minL_mem (all_ne h1)) (fun y hy => by rw [← hmn]; exact minL_le hy)) fun H5 e5 => q H5 (ex4.trans e5)
end
end K07
set_option Elab.async false
set_option linter.all false
set_option maxRecDepth 100000
set_option maxHeartbeats 4000000
namespace K07
open PySem PySem.Spec PyProof.Rows L2 StX GX KC KQ KW Evl M07
theorem nat_mod {x : Int} {n : Nat} (h : 1 ≤ n) : ∃ s : Nat, s < n ∧ x % (n : Int) = (s : Int) := by
  have a := Int.emod_nonneg x (show (n : Int) ≠ 0 by omega)
  have b := Int.emod_lt_of_pos x (show (0 : Int) < (n : Int) by omega)
  exact ⟨(x % (n : Int)).toNat, by omega, by omega⟩
theorem weight_bd (c : Int) : 0 ≤ weightOf c ∧ weightOf c ≤ 1000000 := by
  unfold weightOf
  split
  · omega
  · split <;> omega
theorem weights_bd {ns : List Int} {first n k : Nat} : 0 ≤ (weightsL ns first n).getD k 0 ∧ (weightsL ns first n).getD k 0 ≤ 1000000 := by
  rw [List.getD_eq_getElem?_getD]
  cases hx : (weightsL ns first n)[k]? with
  | none => exact ⟨Int.le_refl _, by decide⟩
  | some x =>
    have hm := List.mem_of_getElem? hx
    obtain ⟨j, _, rfl⟩ := List.mem_map.mp hm
    exact weight_bd _
theorem lex_pre (u : List Int) (p q : List Int) : HT.lexLt (u ++ 0 :: p) (u ++ 1 :: q) = true := by
  induction u with
  | nil =>
    show HT.lexLt (0 :: p) (1 :: q) = true
    rw [HT.lexLt_cons, if_neg (by decide)]
    rfl
  | cons x r ih =>
    show HT.lexLt (x :: (r ++ 0 :: p)) (x :: (r ++ 1 :: q)) = true
    rw [HT.lexLt_cons, if_pos rfl]
    exact ih
theorem no_pre (u : List Int) (p q : List Int) : (u ++ 1 :: q).take (u ++ 0 :: p).length ≠ u ++ 0 :: p := by
  intro h
  have h1 := congrArg (fun l => l[u.length]?) h
  have h2 : ((u ++ 1 :: q).take (u ++ 0 :: p).length)[u.length]? = some 1 := by
    rw [List.getElem?_take, if_pos (by rw [List.length_append, List.length_cons]; omega), List.getElem?_append_right (Nat.le_refl _), Nat.sub_self]
    rfl
  have h3 : (u ++ 0 :: p)[u.length]? = some 0 := by
    rw [List.getElem?_append_right (Nat.le_refl _), Nat.sub_self]
    rfl
  have h4 : some (1 : Int) = some 0 := by rw [← h2, ← h3]; exact h1
  cases h4
theorem eqvAll_ints : ∀ a b : List Int, PyData.eqvAll (a.map PyData.int) (b.map PyData.int) = decide (a = b)
  | [], [] => by simp [PyData.eqvAll]
  | [], y :: s => by simp [PyData.eqvAll]
  | x :: r, [] => by simp [PyData.eqvAll]
  | x :: r, y :: s => by
    have ih := eqvAll_ints r s
    simp only [List.map_cons, PyData.eqvAll, PyData.eqv, ih]
    rw [Bool.eq_iff_iff]
    simp
theorem eqv_list2 (a b : List Int) : PyData.eqv (.list (a.map PyData.int)) (.list (b.map PyData.int)) = decide (a = b) := by
  have := eqvAll_ints a b
  simp [PyData.eqv, this]
section
variable {P : Program} {w : World} {K : PySem.W.Frag} {mg : Str → Option Value} {base : Heap} {σ : L2.St} {H H' : Hp} {ta tb tc te td tl : TE} {D : Ends} {tz : TS}
theorem ed_ofL {ns : List Int} (h : EvL te σ H (ns.map V.int)) : EvD K te σ H (.list (ns.map PyData.int)) := fun H1 e Q q => h H1 e _ fun p H2 hp e2 hx => q _ H2 e2 (dp_listI (sq_of hx))
theorem ev_ofD {i : Int} (h : EvD K te σ H (.int i)) : Ev te σ H (.int i) := fun H1 e Q q => h H1 e _ fun v H2 e2 hv => by
  cases hv
  exact q H2 e2
/-- a new table against another -/
theorem ev_neXP {b : Addr} {ks ls : List (List Key × V)} (h : EvP ta σ H fun v H' => ∃ p, v = .ref p ∧ DAt P w K H' p ks) (h2 : Ev tb σ H (.ref b)) (hb : DAt P w K H b ls) (hl : ks.length = ls.length) (hp : ∀ p ∈ ks, valV ls p.1 = some p.2 ∧ inB p.2 = true) : Ev (tOp (rNeX P w K) ta tb) σ H (.bl false) := fun H1 e Q q =>
  h H1 e _ fun v H2 e2 ⟨p, ev, hd⟩ => by
    subst ev
    exact h2 H2 (e.trans e2) _ fun H3 e3 => ⟨p, b, ks, ls, rfl, rfl, hd.ext e3, hb.ext ((e.trans e2).trans e3), hl, hp, q H3 (e2.trans e3)⟩
theorem LL_get {p : Addr} {cs : List (List Int)} (h : LL H p cs) : ∃ rs : List Addr, H p = some (.lst (rs.map V.ref)) ∧ rs.length = cs.length ∧ ∀ j, j < cs.length → ∃ r, (rs.map V.ref)[j]? = some (.ref r) ∧ H r = some (.lst ((cs.getD j []).map V.int)) := by
  obtain ⟨rs, h1, h2, h3⟩ := h
  refine ⟨rs, h1, h2, fun j hj => ?_⟩
  have hr : rs[j]? = some rs[j] := List.getElem?_eq_getElem (by omega)
  refine ⟨rs[j], by rw [List.getElem?_map, hr]; rfl, ?_⟩
  have hc : cs[j]? = some cs[j] := List.getElem?_eq_getElem hj
  have := h3 j _ _ hr hc
  rw [List.getD_eq_getElem?_getD, hc]
  exact this
theorem words_get {ws : List Int} {n k : Nat} (h : k < n) : (wordsR ws 0 n []).getD k [] = path ws 0 n k := by
  unfold wordsR
  rw [List.getD_eq_getElem?_getD, List.getElem?_map, List.getElem?_range (by omega)]
  show [] ++ path ws 0 n (0 + k) = _
  rw [List.nil_append, Nat.zero_add]
end
end K07
set_option Elab.async false
set_option linter.all false
set_option maxRecDepth 100000
set_option maxHeartbeats 4000000
namespace K07
open PySem PySem.Spec PyProof.Rows L2 StX GX KC KQ KW Evl M07
section
variable {P : Program} {w : World} {K : PySem.W.Frag} {mg : Str → Option Value} {base : Heap} {σ : L2.St} {H H' : Hp} {ta tb tc te td tl : TE} {D : Ends} {tz : TS}
theorem show_val {ws : List Int} (h : 1 ≤ ws.length) : showB ws (val ws) (val ws 0 ws.length) = true := by
  rw [show_all]
  · exact decide_eq_true rfl
  · intro s e h1 h2
    by_cases z : e = s + 1
    · unfold lowB
      rw [if_pos z]
      exact decide_eq_true (by rw [val_one (by omega)]; exact Int.le_refl _)
    · exact low_two (by omega) fun k hk => val_le (by omega) (by omega)
theorem show_le {ws : List Int} {t : Nat → Nat → Int} {x : Int} (h : 1 ≤ ws.length) (hb : showB ws t x = true) : x ≤ val ws 0 ws.length := by
  unfold showB at hb
  rw [Bool.and_eq_true] at hb
  have h0 := of_decide_eq_true hb.1
  have ha := fun s e h1 h2 => List.all_eq_true.mp hb.2 (s, e) (mem_all.mpr ⟨h1, h2⟩)
  rw [← h0]
  refine tab_le (ws := ws) (t := t) ws.length (fun s hs => ?_) (fun s e k h1 h2 h3 => ?_) ws.length 0 ws.length (by omega) (by omega) (Nat.le_refl _)
  · have := ha s (s + 1) (by omega) (by omega)
    dsimp only at this
    unfold lowB at this
    rw [if_pos rfl] at this
    exact of_decide_eq_true this
  · have := ha s e (by omega) h3
    dsimp only at this
    unfold lowB at this
    rw [if_neg (by omega)] at this
    have hm := List.all_eq_true.mp this (t s k + t k e) (List.mem_map.mpr ⟨k - s - 1, List.mem_range.mpr (by omega), by rw [show s + 1 + (k - s - 1) = k by omega]⟩)
    exact of_decide_eq_true hm
theorem ev_call3P {sp : Sp} {E : XK} {x y z : V} {R : V → Hp → Prop} (h1 : Ev ta σ H x) (h2 : Ev tb σ H y) (h3 : EvP tc σ H R) (hs : ∀ v H1, Ex H H1 → R v H1 → SpV sp ([x, y, v] ++ []) H1 z) : Ev (tCall sp [] E (tCons ta (tCons tb (tCons tc tNil)))) σ H z := fun H1 e Q q =>
  h1 H1 e _ fun H2 e2 => h2 H2 (e.trans e2) _ fun H3 e3 => h3 H3 ((e.trans e2).trans e3) _ fun v H4 e4 hv => hs v H4 (((e.trans e2).trans e3).trans e4) hv H4 (Ex.refl _) Q (fun H5 e5 => q H5 (((e2.trans e3).trans e4).trans e5)) E
theorem rv_notB {a b : Bool} : RV rNotB (.bl a) (.bl b) H (.bl (!decide (a = b))) := fun H1 _ Q q => ⟨a, b, rfl, rfl, q H1 (Ex.refl H1)⟩
theorem ev_orV {a b : Bool} (h1 : Ev ta σ H (.bl a)) (h2 : a = false → Ev tb σ H (.bl b)) : Ev (tOrV ta tb) σ H (.bl (a || b)) := fun H1 e Q q => h1 H1 e _ fun H2 e2 => ⟨a, rfl, by
  cases a with
  | true => exact q H2 e2
  | false => exact h2 rfl H2 (e.trans e2) _ fun H3 e3 => q H3 (e2.trans e3)⟩
def spLaw (K : PySem.W.Frag) (P1 P2 : Addr) : Sp := fun vs H Q _ => ∃ (l : Addr) (ns : List Int), vs = [.ref l] ∧ SqL K H l (ns.map V.int) ∧ ns.length ≤ 63 ∧ H P1 = some (TabX P1) ∧ H P2 = some (TabX P2) ∧ ∀ H2, Ex H H2 → Q (.bl true) H2
theorem ok_law {f P1 P2 : Addr} {fd : FuncData} {k : Nat} (F : Fun K "law" "law" s_law f fd) (B : Bs mg) (C_law_cell : Cal P w K mg base "_law_cell" 1 ["script", "k"] (spCell K)) (C_law_weights : Cal P w K mg base "_law_weights" 2 ["script", "first", "many"] (spWeights K)) (C_law_values : Cal P w K mg base "_law_values" 1 ["weights"] (spValues P w K))
    (C_range_values : Cal P w K mg base "range_values" 2 ["weights"] (spValues P w K)) (C_alphabetic_words : Cal P w K mg base "alphabetic_words" 3 ["weights"] (spWords K)) (C_law_cuts : Cal P w K mg base "_law_cuts" 1 ["table", "many"] (spCuts P w K)) (C_law_trees : Cal P w K mg base "_law_trees" 1 ["weights"] (spTrees K))
    (C_shows_least : Cal P w K mg base "shows_least" 13 ["weights", "cost", "table"] (spShows P w K P1 P2)) (C_law_judged : Cal P w K mg base "_law_judged" 1 ["weights", "price", "table"] (spJudged P w K)) :
    FnOk P w K mg base CX0 (k + 14) f fd ["script"] (spLaw K P1 P2) := by
  refine F.ok sc_law (fun vs H Q E h => ?_) (fun cdv A outer s0 H vs Q E hr h => ?_)
  · obtain ⟨l, ns, rfl, _⟩ := h
    rfl
  · obtain ⟨l, ns, rfl, hs, hl, tab1, tab2, q⟩ := h
    have hu64 := hr.units
    have hu := units1 hr
    refine ⟨_, (pss_cons (ps_set (i := 1) sc_law.nd rfl (Or.inl rfl) (pe_callC C_law_cell (hr.mono (by omega)) (by rfl) (pa_cons (pv 0) (pa_cons pe_int pa_nil))))
      (pss_cons (ps_set (i := 2) sc_law.nd rfl (Or.inl rfl) (pe_op op_add pe_int (pe_op op_mod (pv 1) pe_int)))
      (pss_cons (ps_if (pt_cmpR op_eq (pe_op op_mod (pe_op op_fdiv (pv 1) pe_int) pe_int) pe_int (nomark _)) (pss_one (ps_set (i := 2) sc_law.nd rfl (Or.inl rfl) (pe_op op_add pe_int (pe_op op_mod (pe_op op_fdiv (pv 1) pe_int) pe_int)))) pss_nil)
      (pss_cons (ps_set (i := 3) sc_law.nd rfl (Or.inr rfl) (pe_callC C_law_weights (hr.mono (by omega)) (by rfl) (pa_cons (pv 0) (pa_cons pe_int (pa_cons (pv 2) pa_nil)))))
      (pss_cons (ps_set (i := 4) sc_law.nd rfl (Or.inl rfl) (pe_callC C_law_values (hr.mono (by omega)) (by rfl) (pa_cons (pv 3) pa_nil)))
      (pss_cons (ps_set (i := 5) sc_law.nd rfl (Or.inl rfl) (pe_callTy call_list_of (by rfl) B.list (by decide +kernel) (pa_cons (pv 3) pa_nil)))
      (pss_cons (ps_if (PW.pt (pw_or (pt_cmpR (op_neX hu64) (pe_callC C_range_values (hr.mono (by omega)) (by rfl) (pa_cons (pv 5) pa_nil)) (pv 4) (nomark _)) (pw_or1 (pt_cmpR (op_neD hu64) (pv 5) (pv 3) (nomark _))))) (pss_one (ps_ret pe_bl)) pss_nil)
      (pss_cons (ps_set (i := 6) sc_law.nd rfl (Or.inr rfl) (pe_callC C_alphabetic_words (hr.mono (by omega)) (by rfl) (pa_cons (pv 5) pa_nil)))
      (pss_cons (ps_if (pt_cmpR (op_neD hu64) (pv 6) (pe_callC C_law_cuts (hr.mono (by omega)) (by rfl) (pa_cons (pv 4) (pa_cons (pv 2) pa_nil))) (nomark _)) (pss_one (ps_ret pe_bl)) pss_nil)
      (pss_cons (ps_for PassesOwn.never rfl (pi_range1 (by rfl) B.range (pa_cons (pe_op op_sub (pv 2) pe_int) pa_nil)) (pg_name (i := 7) sc_law.nd rfl (Or.inl rfl)) (pss_one (ps_if (PW.pt (pw_or (pt_not (pt_cmpR (op_ltL hr.units0) (pe_ix ix_list (pv 6) (pv 7) (fun _ _ => rfl)) (pe_ix ix_list (pv 6) (pe_op op_add (pv 7) pe_int) (fun _ _ => rfl)) (nomark _))) (pw_or1 (pt_cmpR (op_eqD hu64) (pe_slice sl_list (pe_ix ix_list (pv 6) (pe_op op_add (pv 7) pe_int) (fun _ _ => rfl)) po_none (po_some (pe_callB call_len_seq (by rfl) B.len PySem.boot_len (pa_cons (pe_ix ix_list (pv 6) (pv 7) (fun _ _ => rfl)) pa_nil)))) (pe_ix ix_list (pv 6) (pv 7) (fun _ _ => rfl)) (nomark _))))) (pss_one (ps_ret pe_bl)) pss_nil)))
      (pss_cons (ps_set (i := 8) sc_law.nd rfl (Or.inl rfl) (pe_callB (cr_sum rfl) (by rfl) B.sum (by decide +kernel) (pa_cons (pe_lc rfl sc_law.nd (pi_range1 (by rfl) B.range (pa_cons (pv 2) pa_nil)) (blkOk_by (own := [("k", 7)]) (N := ["script", "cell", "many", "weights", "table", "given", "words", "k", "price", "pick", "start", "key", "other", "wanted", "told"]) (sc := defScope s_law) (by decide +kernel)) (fun _ _ _ _ _ => (pg_name (i := 7) sc_law.nd rfl (Or.inl rfl))) (fun _ _ _ _ _ => pts_nil) (fun _ _ _ _ _ => (pe_op op_mul (pe_ix (ix_listK (K := K) rfl) (pv 3) (pv 7) (fun _ _ => rfl)) (pe_callB (len_seqK (K := K) rfl) (by rfl) B.len PySem.boot_len (pa_cons (pe_ix (ix_listK (K := K) rfl) (pv 6) (pv 7) (fun _ _ => rfl)) pa_nil))))) pa_nil)))
      (pss_cons (ps_if (PW.pt (pw_or (pt_cmpR op_ne (pv 8) (pe_dgx (P := P) (w := w) (K := K) ⟨rfl, rfl, rfl⟩ hu (pv 4) (pe_tup (pa_cons pe_int (pa_cons (pv 2) pa_nil))) (fun _ _ => rfl)) (nomark _)) (pw_or1 (PW.pt (pw_and (pt_cmpR op_le (pv 2) pe_int (nomark _)) (pw_and1 (pt_cmpR op_ne (pv 8) (pe_callC C_law_trees (hr.mono (by omega)) (by rfl) (pa_cons (pv 3) pa_nil)) (nomark _)))))))) (pss_one (ps_ret pe_bl)) pss_nil)
      (pss_cons (ps_if (pt_cmpR op_notBl (pe_callC C_shows_least (hr.mono (by omega)) (by rfl) (pa_cons (pv 5) (pa_cons (pv 8) (pa_cons (pe_callC C_range_values (hr.mono (by omega)) (by rfl) (pa_cons (pv 5) pa_nil)) pa_nil)))) pe_bl (nomark _)) (pss_one (ps_ret pe_bl)) pss_nil)
      (pss_cons (ps_set (i := 9) sc_law.nd rfl (Or.inl rfl) (pe_callC C_law_cell (hr.mono (by omega)) (by rfl) (pa_cons (pv 0) (pa_cons pe_int pa_nil))))
      (pss_cons (ps_set (i := 10) sc_law.nd rfl (Or.inl rfl) (pe_op op_mod (pv 9) (pv 2)))
      (pss_cons (ps_set (i := 11) sc_law.nd rfl (Or.inl rfl) (pe_tup (pa_cons (pv 10) (pa_cons (pe_op op_add (pe_op op_add (pv 10) pe_int) (pe_op op_mod (pe_op op_fdiv (pv 9) pe_int) (pe_op op_sub (pv 2) (pv 10)))) pa_nil))))
      (pss_cons (ps_set (i := 12) sc_law.nd rfl (Or.inl rfl) (pe_callC C_law_values (hr.mono (by omega)) (by rfl) (pa_cons (pv 3) pa_nil)))
      (pss_cons (ps_dputX (P := P) (w := w) (K := K) ⟨rfl, rfl, rfl⟩ hu (pv 12) (pv 11) (pe_op op_sub (pe_op op_add (pe_dgx (P := P) (w := w) (K := K) ⟨rfl, rfl, rfl⟩ hu (pv 12) (pv 11) (fun _ _ => rfl)) (pe_op op_mod (pe_op op_fdiv (pv 9) pe_int) pe_int)) pe_int) rfl)
      (pss_cons (ps_set (i := 13) sc_law.nd rfl (Or.inl rfl) (pe_op op_add (pe_dgx (P := P) (w := w) (K := K) ⟨rfl, rfl, rfl⟩ hu (pv 12) (pe_tup (pa_cons pe_int (pa_cons (pv 2) pa_nil))) (fun _ _ => rfl)) (pe_ix ix_list (pe_lst (pa_cons pe_int (pa_cons pe_int (pa_cons pe_int (pa_cons (pe_un un_neg pe_int) pa_nil))))) (pe_op op_mod (pe_op op_fdiv (pv 9) pe_int) pe_int) (fun _ _ => rfl))))
      (pss_cons (ps_set (i := 14) sc_law.nd rfl (Or.inl rfl) (pe_callC C_shows_least (hr.mono (by omega)) (by rfl) (pa_cons (pv 5) (pa_cons (pv 13) (pa_cons (pv 12) pa_nil)))))
      (pss_cons (ps_if (PW.pt (pw_or (pt_not (pt_val (pe_callB call_isi (by rfl) B.isinstance (by decide +kernel) (pa_cons (pv 14) (pa_cons (pe_bltn (v := .ty "bool") (by rfl) B.bool boot_bool rfl) pa_nil))))) (pw_or1 (pt_cmpR op_ne (pv 14) (pe_callC C_law_judged (hr.mono (by omega)) (by rfl) (pa_cons (pv 3) (pa_cons (pv 13) (pa_cons (pv 12) pa_nil)))) (nomark _))))) (pss_one (ps_ret pe_bl)) pss_nil)
      (pss_one (ps_ret (pe_or (pe_not (pv 14)) (pe_one (pe_cmpR op_le (pv 13) (pv 8) (nomark _))))))))))))))))))))))))))), ?_⟩
    have hcell : ∀ {σ : L2.St} {H' : Hp} {j : Nat} {z : Int}, σ[0]? = some (some (.ref l)) → Ex H H' → z = (j : Int) → Ev (tCall (spCell K) [] E0 (tCons (tVar 0) (tCons (tC (.int z)) tNil))) σ H' (.int (cellOf ns j)) := fun h e ez => ev_call (ea2 (ev_var h) ev_c) (spv_cell (ex_l e hs) ez)
    generalize hcc : cellOf ns 0 = cc
    refine q_asg (v := .int cc) (ev_is (hcell (j := 0) rfl (Ex.refl _) rfl) (by rw [hcc])) fun H1 e1 => ?_
    obtain ⟨n1, hn1, en1⟩ := nat_mod (x := cc) (n := 6) (by decide)
    have en1' : cc % 6 = (n1 : Int) := en1
    refine q_asg (v := .int ((1 + n1 : Nat) : Int)) (ev_is (ev_add ev_c (ev_op (ev_var (v := .int cc) rfl) ev_c (rv_mod (by decide)))) (by rw [en1']; push_cast; rfl)) fun H2 e2 => ?_
    have e02 := e1.trans e2
    refine q_mid (fun σ' H' => ∃ n : Nat, 1 ≤ n ∧ n ≤ 14 ∧ σ' = [some (.ref l), some (.int cc), some (.int (n : Int)), none, none, none, none, none, none, none, none, none, none, none, none] ∧ Ex H H') (et_test (ev_eq (ev_op (ev_op (ev_var (v := .int cc) rfl) ev_c (rv_div (by decide) (by decide))) ev_c (rv_mod (by decide))) ev_c)) (fun hb H3 e3 D' nx => ?_) (fun hb H3 e3 => ⟨1 + n1, by omega, by omega, rfl, e02.trans e3⟩) ?_
    · obtain ⟨n2, hn2, en2⟩ := nat_mod (x := cc / 18) (n := 14) (by decide)
      have en2' : cc / 18 % 14 = (n2 : Int) := en2
      exact s_asg (v := .int ((1 + n2 : Nat) : Int)) (ev_is (ev_add ev_c (ev_op (ev_op (ev_var (v := .int cc) rfl) ev_c (rv_div (by decide) (by decide))) ev_c (rv_mod (by decide)))) (by rw [en2']; push_cast; rfl)) fun H4 e4 => nx _ _ ⟨1 + n2, by omega, by omega, rfl, (e02.trans e3).trans e4⟩
    rintro σ3 H3 ⟨n, hn1, hn14, rfl, e03⟩
    refine q_asgL (xs := (weightsL ns 3 n).map V.int) (el_call (ea3 (ev_var rfl) (ev_c (v := .int ((3 : Nat) : Int))) (ev_var (v := .int (n : Int)) rfl)) fun H4 e4 Q q E => ⟨l, ns, 3, n, rfl, ex_l (e03.trans e4) hs, by omega, q⟩) fun pw H4 hpw e4 h4 => ?_
    have hwl := weightsL_len ns 3 n
    have hwb : ∀ k, 0 ≤ (weightsL ns 3 n).getD k 0 ∧ (weightsL ns 3 n).getD k 0 ≤ 1000000 := fun k => weights_bd
    generalize weightsL ns 3 n = ws at h4 hwl hwb
    have e04 := e03.trans e4
    refine q_asgP (R := fun v H' => ∃ p, v = .ref p ∧ DAt P w K H' p (tabR (rgA n) (val ws))) (ep_call (vs := [.ref pw]) (ea1 (ev_var rfl)) fun H5 e5 Q k => ⟨pw, ws, rfl, sq_of (e5 _ _ h4), by omega, by omega, fun p H6 hp e6 hd => k _ H6 e6 ⟨p, rfl, by rw [hwl] at hd; exact hd⟩⟩) fun v H5 e5 ⟨pt, ev, hd5⟩ => ?_
    subst ev
    refine q_asgL (el_listOf (ev_var rfl) (sq_of (e5 _ _ h4))) fun pg H6 hpg e6 h6 => ?_
    have hd6 := hd5.ext e6
    have e46 := e5.trans e6
    have e06 := e04.trans e46
    have hw6 := e46 _ _ h4
    have hself : ∀ p ∈ tabR (rgA n) (val ws), valV (tabR (rgA n) (val ws)) p.1 = some p.2 ∧ inB p.2 = true := fun p hp => by
      obtain ⟨r, hr2, rfl⟩ := List.mem_map.mp hp
      exact ⟨tab_some hr2, rfl⟩
    have hrv : ∀ {σ : L2.St} {H9 : Hp}, σ[5]? = some (some (.ref pg)) → Ex H6 H9 → EvP (tCall (spValues P w K) [] E0 (tCons (tVar 5) tNil)) σ H9 fun v H' => ∃ p, v = .ref p ∧ DAt P w K H' p (tabR (rgA n) (val ws)) := fun h e => ep_call (vs := [.ref pg]) (ea1 (ev_var h)) fun H7 e7 Q k => ⟨pg, ws, rfl, sq_of ((e.trans e7) _ _ h6), by omega, by omega, fun p H8 hp e8 hd => k _ H8 e8 ⟨p, rfl, by rw [hwl] at hd; exact hd⟩⟩
    refine q_when (b := false) (et_is (et_or (a := false) (b := false) (et_test (ev_neXP (hrv rfl (Ex.refl _)) (ev_var rfl) hd6 rfl hself)) fun _ => et_is (et_test (ev_neD (K := K) (ed_at (ev_var rfl) (dp_listI (sq_of h6))) (ed_at (ev_var rfl) (dp_listI (sq_of hw6))) (shaped_ints _) (shaped_ints _))) (by rw [eqv_ints]; rfl)) rfl) (fun z => by cases z) fun _ H7 e7 => ?_
    refine q_asgP (R := fun v H' => ∃ p, v = .ref p ∧ LL H' p (wordsR ws 0 n [])) (ep_call (vs := [.ref pg]) (ea1 (ev_var rfl)) fun H8 e8 Q k => ⟨pg, ws, rfl, sq_of ((e7.trans e8) _ _ h6), by omega, by omega, fun p H9 hp e9 hL => k _ H9 e9 ⟨p, rfl, by rw [hwl] at hL; exact hL⟩⟩) fun v H8 e8 ⟨pd, ev, hL8⟩ => ?_
    subst ev
    have e68 := e7.trans e8
    have e08 := e06.trans e68
    have hd8 := hd6.ext e68
    refine q_when (b := false) (et_is (et_test (ev_neD (K := K) (ed_at (ev_var rfl) hL8.dp) (ed_call (vs := [.ref pt, .int (n : Int)]) (ea2 (ev_var rfl) (ev_var rfl)) fun H9 e9 Q q E => ⟨pt, ws, by rw [hwl]; rfl, by rw [hwl]; exact hd8.ext e9, by omega, by omega, fun p H10 hp e10 hL => q _ H10 e10 (by rw [hwl] at hL; exact hL.dp)⟩) (ll_shaped _) (ll_shaped _))) (by rw [ll_eqv]; rfl)) (fun z => by cases z) fun _ H9 e9 => ?_
    obtain ⟨rs, hrs, hrl, hrg⟩ := LL_get (hL8.ext e9)
    have hwlen : (wordsR ws 0 n []).length = n := by simp [wordsR]
    have e69 := e68.trans e9
    have e09 := e08.trans e9
    have hd9 := hd8.ext e9
    have hword : ∀ {σ : L2.St} {H9' : Hp} {j : Nat} {ti : TE}, σ[6]? = some (some (.ref pd)) → Ev ti σ H9' (.int (j : Int)) → Ex H9 H9' → j < n → ∃ r, Ev (tOp (rIxL K) (tVar 6) ti) σ H9' (.ref r) ∧ SqL K H9' r ((path ws 0 n j).map V.int) := fun {σ H9' j ti} h hi e hj => by
      obtain ⟨r, g1, g2⟩ := hrg j (by rw [hwlen]; exact hj)
      rw [words_get hj] at g2
      exact ⟨r, ev_op (ev_var h) hi (rv_ixL (sq_of (e _ _ hrs)) (atI_nat g1)), sq_of (e _ _ g2)⟩
    refine q_forR1 (n := ((n - 1 : Nat) : Int)) (ea1 (ev_is (ev_sub (ev_var (v := .int (n : Int)) rfl) ev_c) (by congr 1; omega))) ⟨by omega, by omega⟩
      (fun i σ' H' => ∃ x : Option V, σ' = [some (.ref l), some (.int cc), some (.int (n : Int)), some (.ref pw), some (.ref pt), some (.ref pg), some (.ref pd), x, none, none, none, none, none, none, none] ∧ Ex H9 H')
      (fun H10 e10 => ⟨none, rfl, e10⟩) ?_ ?_
    · rintro i σ' H10 hi ⟨x, rfl, e10⟩
      have hin : i + 1 < n := by omega
      obtain ⟨u, p, r, g1, g2⟩ := path_next (ws := ws) n 0 n i (by omega) (by omega) hin
      obtain ⟨ra, va, sa⟩ := hword (σ := [some (.ref l), some (.int cc), some (.int (n : Int)), some (.ref pw), some (.ref pt), some (.ref pg), some (.ref pd), some (.int (i : Int)), none, none, none, none, none, none, none]) (ti := tVar 7) rfl (ev_var (v := .int (i : Int)) rfl) e10 (show i < n by omega)
      obtain ⟨rb, vb, sb⟩ := hword (σ := [some (.ref l), some (.int cc), some (.int (n : Int)), some (.ref pw), some (.ref pt), some (.ref pg), some (.ref pd), some (.int (i : Int)), none, none, none, none, none, none, none]) (ti := tOp rAdd (tVar 7) (tC (.int 1))) rfl (ev_is (ev_add (ev_var (v := .int (i : Int)) rfl) ev_c) (show V.int _ = .int ((i + 1 : Nat) : Int) by push_cast; rfl)) e10 hin
      have hlex : HT.lexLt (path ws 0 n i) (path ws 0 n (i + 1)) = true := by rw [g1, g2]; exact lex_pre _ _ _
      have hpre : (path ws 0 n (i + 1)).take (path ws 0 n i).length ≠ path ws 0 n i := by rw [g1, g2]; exact no_pre _ _ _
      have hsl := el_sl (K := K) (tl := tNoPart) (th := tPart (tCB (Evl.rLenS K) (tCons (tOp (rIxL K) (tVar 6) (tVar 7)) tNil))) vb eo_none (eo_some (len_is va sa)) sb
      rw [cutV_to, ← List.map_take] at hsl
      refine s_when (b := false) (et_is (et_or (a := false) (b := false) (et_is (et_not (et_test (ev_op va vb (rv_ltL sa sb)))) (by rw [hlex]; rfl)) fun _ => et_is (et_test (ev_eqD (K := K) (ed_ofL hsl) (ed_at va (dp_listI sa)) (shaped_ints _) (shaped_ints _))) (by rw [eqv_list2]; exact decide_eq_false hpre)) rfl) (fun z => by cases z) fun _ H11 e11 => ⟨_, rfl, e10.trans e11⟩
    rintro σ10 H10 ⟨x, rfl, e10⟩
    have e010 := e09.trans e10
    have e610 := e69.trans e10
    have hd10 := hd9.ext e10
    have hw10 := e610 _ _ hw6
    have hg10 := e610 _ _ h6
    obtain ⟨pr0, hpr0⟩ : ∃ v, v = val ws 0 n := ⟨_, rfl⟩
    refine q_asg (v := .int pr0) (ev_is (ev_sumN2 (ns := (List.range n).map fun k => ws.getD k 0 * ((path ws 0 n k).length : Int)) (by
      rw [List.map_map]
      refine el_lcN (j := 7) _ (ea1 (ev_var (v := .int (n : Int)) rfl)) rfl (by omega) (fun x => rfl) fun i H11 e11 hi => ?_
      obtain ⟨ra, va, sa⟩ := hword (σ := [some (.ref l), some (.int cc), some (.int (n : Int)), some (.ref pw), some (.ref pt), some (.ref pg), some (.ref pd), some (.int (i : Int)), none, none, none, none, none, none, none]) (ti := tVar 7) rfl (ev_var (v := .int (i : Int)) rfl) (e10.trans e11) hi
      have := hwb i
      exact ev_op (ev_op (ev_var rfl) (ev_var (v := .int (i : Int)) rfl) (rv_ixL (sq_of (e11 _ _ hw10)) (atI_at rfl (by omega)))) (len_is va sa) (rv_mul (by omega)))) (by
        rw [hpr0]
        have := pr_val (ws := ws) n 0 n (by omega) (by omega) (by omega)
        rw [← this]
        unfold pr
        simp)) fun H11 e11 => ?_
    have e1011 := e11
    have e011 := e010.trans e11
    have hd11 := hd10.ext e11
    have hin := mem_all.mpr ⟨show 0 < n by omega, Nat.le_refl n⟩
    have ht0 : ∀ {σ : L2.St} {H9 : Hp} {a : Addr} {t : Nat → Nat → Int} {i : Nat}, σ[i]? = some (some (.ref a)) → σ[2]? = some (some (.int (n : Int))) → DAt P w K H9 a (tabR (rgA n) t) → Ev (tDGetX P w K (tVar i) (tTup (tCons (tC (.int 0)) (tCons (tVar 2) tNil)))) σ H9 (.int (t 0 n)) := fun h1 h2 hd => ev_dgxU (ev_var h1) (eu_tup (ea2 (ev_c (v := .int ((0 : Nat) : Int))) (ev_var h2)) (by show 2 ≤ 100000; decide)) (key_v 0 n) hd (tab_some hin)
    refine q_when (b := false) (et_is (et_or (a := false) (b := false) (et_is (et_test (ev_ne (ev_var (v := .int pr0) rfl) (ht0 rfl rfl hd11))) (by rw [hpr0]; simp)) fun _ => et_is (et_and (a := decide ((n : Int) ≤ 6)) (b := false) (et_test (ev_op (ev_var (v := .int (n : Int)) rfl) ev_c rv_I0)) fun hb6 => et_is (et_test (ev_ne (ev_var (v := .int pr0) rfl) (ev_call (vs := [.ref pw]) (ea1 (ev_var rfl)) fun H12 e12 Q q E => ⟨pw, ws, rfl, sq_of ((e11.trans e12) _ _ hw10), by omega, by have := of_decide_eq_true hb6; omega, by rw [hwl]; exact q⟩))) (by rw [hpr0]; simp)) (Bool.and_false _)) rfl) (fun z => by cases z) fun _ H12 e12 => ?_
    have e1012 := e11.trans e12
    have e012 := e010.trans e1012
    have hsv := show_val (ws := ws) (by omega)
    rw [hwl, ← hpr0] at hsv
    refine q_when (b := false) (et_is (et_test (ev_op (x := .bl true) (ev_call3P (ev_var rfl) (ev_var (v := .int pr0) rfl) (hrv rfl (e610.trans e1012)) fun v H13 e13 ⟨p, ev, hd⟩ => by
      subst ev
      exact fun H14 e14 Q q E => ⟨pg, p, ws, pr0, val ws, rfl, sq_of (((e1012.trans e13).trans e14) _ _ hg10), by rw [hwl]; exact hd.ext e14, by omega, by omega, ((e012.trans e13).trans e14) _ _ tab1, ((e012.trans e13).trans e14) _ _ tab2, by rw [hsv]; exact q⟩) ev_c (rv_notB (b := true)))) rfl) (fun z => by cases z) fun _ H13 e13 => ?_
    have e1013 := e1012.trans e13
    have e013 := e012.trans e13
    generalize hpk : cellOf ns 1 = pk
    refine q_asg (v := .int pk) (ev_is (hcell (j := 1) rfl e013 rfl) (by rw [hpk])) fun H14 e14 => ?_
    obtain ⟨st, hst, est⟩ := nat_mod (x := pk) (n := n) (by omega)
    refine q_asg (v := .int (st : Int)) (ev_is (ev_op (ev_var (v := .int pk) rfl) (ev_var (v := .int (n : Int)) rfl) (rv_mod (by omega))) (by rw [est])) fun H15 e15 => ?_
    obtain ⟨dd, hdd, edd⟩ := nat_mod (x := pk / 14) (n := n - st) (by omega)
    refine q_asgU (xs := [.int (st : Int), .int ((st + 1 + dd : Nat) : Int)]) (eu_tup (ea2 (ev_var rfl) (ev_is (ev_add (ev_add (ev_var (v := .int (st : Int)) rfl) ev_c) (ev_op (ev_op (ev_var (v := .int pk) rfl) ev_c (rv_div (by decide) (by decide))) (ev_is (ev_sub (ev_var (v := .int (n : Int)) rfl) (ev_var (v := .int (st : Int)) rfl)) (show V.int _ = .int ((n - st : Nat) : Int) by congr 1; omega)) (rv_mod (by omega)))) (by rw [edd]; push_cast; rfl))) (by show 2 ≤ 100000; decide)) fun pk2 H16 hpk2 e16 hk16 => ?_
    have e1016 := ((e1013.trans e14).trans e15).trans e16
    refine q_asgP (R := fun v H' => ∃ p, v = .ref p ∧ H16 p = none ∧ DAt P w K H' p (tabR (rgA n) (val ws))) (ep_call (vs := [.ref pw]) (ea1 (ev_var rfl)) fun H17 e17 Q k => ⟨pw, ws, rfl, sq_of ((e1016.trans e17) _ _ hw10), by omega, by omega, fun p H18 hp e18 hd => k _ H18 e18 ⟨p, rfl, fresh_back e17 hp, by rw [hwl] at hd; exact hd⟩⟩) fun v H17 e17 ⟨po, ev, hpo, hdo⟩ => ?_
    subst ev
    have hmk : (st, st + 1 + dd) ∈ rgA n := mem_all.mpr ⟨by omega, by omega⟩
    have hk17 := e17 _ _ hk16
    obtain ⟨xv, hxv⟩ : ∃ xv, xv = val ws st (st + 1 + dd) + pk / 200 % 5 - 2 := ⟨_, rfl⟩
    refine q_dput (k := key st (st + 1 + dd)) (v := .int xv) (ev_is (ev_sub (ev_add (ev_dgx (k := key st (st + 1 + dd)) (ev_var rfl) (ev_var rfl) hdo (st_of hk17) (tab_some hmk)) (ev_op (ev_op (ev_var (v := .int pk) rfl) ev_c (rv_div (by decide) (by decide))) ev_c (rv_mod (by decide)))) ev_c) (by rw [hxv])) (ev_var rfl) (ev_var rfl) hdo (st_of hk17) (by rw [tab_len]; have := rgA_len (n := n) (by omega); omega) fun H18 H19 e18 hd19 hk19 => ?_
    rw [tab_upd hmk] at hd19
    obtain ⟨t, htt⟩ : ∃ t, t = updT (val ws) st (st + 1 + dd) xv := ⟨_, rfl⟩
    rw [← htt] at hd19
    have e1619 : Ex H16 H19 := ex_but (e17.trans e18) hpo hk19
    have e1019 := e1016.trans e1619
    have e019 := e010.trans e1019
    obtain ⟨jj, hjj, ejj⟩ := nat_mod (x := pk / 1000) (n := 4) (by decide)
    have ejj' : pk / 1000 % 4 = (jj : Int) := ejj
    obtain ⟨wv, hwv⟩ : ∃ wv, wv = t 0 n + ([0, 0, 1, -1] : List Int).getD jj 0 := ⟨_, rfl⟩
    refine q_asg (v := .int wv) (ev_is (ev_add (ht0 rfl rfl hd19) (ev_ofD (i := ([0, 0, 1, -1] : List Int).getD jj 0) (ed_ixNew (ds := [.int 0, .int 0, .int 1, .int (-1)]) (eda_cons (ed_int ev_c) (eda_cons (ed_int ev_c) (eda_cons (ed_int ev_c) (eda_cons (ed_int (ev_un (x := .int 1) ev_c ru_neg)) eda_nil)))) (by show 4 ≤ 100000; decide) (ev_op (ev_op (ev_var (v := .int pk) rfl) ev_c (rv_div (by decide) (by decide))) ev_c (rv_mod (by decide))) ejj' (by
      match jj, hjj with
      | 0, _ => rfl
      | 1, _ => rfl
      | 2, _ => rfl
      | 3, _ => rfl)))) (by rw [hwv])) fun H20 e20 => ?_
    have e1020 := e1019.trans e20
    have e020 := e019.trans e20
    have hd20 := hd19.ext e20
    refine q_asg (v := .bl (showB ws t wv)) (ev_call (vs := [.ref pg, .int wv, .ref po]) (ea3 (ev_var rfl) (ev_var rfl) (ev_var rfl)) fun H21 e21 Q q E => ⟨pg, po, ws, wv, t, rfl, sq_of ((e1020.trans e21) _ _ hg10), by rw [hwl]; exact hd20.ext e21, by omega, by omega, (e020.trans e21) _ _ tab1, (e020.trans e21) _ _ tab2, q⟩) fun H21 e21 => ?_
    refine q_when (b := false) (et_is (et_or (et_not (et_B (ev_isi (K := K) (b := true) (ev_var (v := .bl (showB ws t wv)) rfl) (fun H1 e => .base (.bl _)) (kit_ty (by decide +kernel))))) fun _ => et_test (ev_op (ev_var rfl) (ev_call (z := .bl (showB ws t wv)) (vs := [.ref pw, .int wv, .ref po]) (ea3 (ev_var rfl) (ev_var rfl) (ev_var rfl)) fun H22 e22 Q q E => ⟨pw, po, ws, wv, t, rfl, sq_of (((e1020.trans e21).trans e22) _ _ hw10), by rw [hwl]; exact (hd20.ext e21).ext e22, by omega, by omega, q⟩) (rv_ne rfl))) (by simp)) (fun z => by cases z) fun _ H22 e22 => ?_
    refine s_ret (v := .bl true) (ev_is (ev_orV (a := !showB ws t wv) (b := decide (wv ≤ pr0)) ?_ fun hb => ?_) ?_) fun H23 e23 => q H23 (((e020.trans e21).trans e22).trans e23)
    · exact fun Ha ea Q q => (ev_var (v := .bl (showB ws t wv)) rfl) Ha ea _ fun Hb eb => ⟨showB ws t wv, rfl, q Hb eb⟩
    · exact ev_op (ev_var rfl) (ev_var rfl) rv_I0
    · cases hsh : showB ws t wv with
      | false => rfl
      | true =>
        have := show_le (ws := ws) (by omega) hsh
        rw [hwl, ← hpr0] at this
        rw [decide_eq_true this]
        rfl
end
end K07
set_option Elab.async false
set_option linter.all false
set_option maxRecDepth 100000
set_option maxHeartbeats 4000000
/-! The end of a law: the head's heap, the script, tables of code objects followed as TabX. -/
namespace KC
open PySem PySem.Spec PyProof.Rows L2 GX Evl
def tabO : Obj := { cls := .none, data := .fields #[] }
/-- tables that stand empty in h, out of the frozen part, of known code objects -/
structure Tbs (K : PySem.W.Frag) (h : Heap) (cs : List (Addr × Addr)) : Prop where
  emp : ∀ p ∈ cs, h.get? p.2 = some tabO
  out : ∀ p ∈ cs, K.lookup p.2 = none
  cod : ∀ p ∈ cs, PySem.W.CodeHd h p.1 p.2
structure Hd0 (K : PySem.W.Frag) (mg mb : Str → Option Value) (s : Shared) : Prop where
  kin : K.In s.heap
  glo : s.heap.Ns mainGlobals mg
  blt : s.heap.Ns builtinsNs mb
  boo : ∀ y : Str, y ≠ "__name__" → mb y = bootBuiltins y
  lim : s.heap.NoLimit
  gen : s.gens = #[]
  bmo : ∃ (bm : Addr) (o : Obj), mg "__builtins__" = some (.ref bm) ∧ bm ≠ builtinsNs ∧ s.heap.get? bm = some o ∧ o.cls = .type "module" ∧ o.dict = some builtinsNs ∧ o.data = .plain
/-- the start: the tables, and the script where it is not frozen -/
def H0 (cs : List (Addr × Addr)) (a : Addr) (u : Option HO) : Hp := fun b => if b ∈ cs.map Prod.snd then some (TabX b) else if b = a then u else none
theorem h0_tab {cs : List (Addr × Addr)} {a b : Addr} {u : Option HO} (m : b ∈ cs.map Prod.snd) : H0 cs a u b = some (TabX b) := if_pos m
theorem h0_a {cs : List (Addr × Addr)} {a : Addr} {u : Option HO} (m : a ∉ cs.map Prod.snd) : H0 cs a u a = u := (if_neg m).trans (if_pos rfl)
theorem h0_no {cs : List (Addr × Addr)} {a b : Addr} {u : Option HO} (m : b ∉ cs.map Prod.snd) (n : b ≠ a) : H0 cs a u b = none := (if_neg m).trans (if_neg n)
section
variable {P : Program} {w : World} {K : PySem.W.Frag} {mg mb : Str → Option Value} {CX : CXT} {s : Shared} {cs : List (Addr × Addr)} {a : Addr} {u : Option HO} {vs : List Value}
theorem Tbs.at_ {h : Heap} (T : Tbs K h cs) {b : Addr} (m : b ∈ cs.map Prod.snd) : h.get? b = some tabO := by
  obtain ⟨p, hp, rfl⟩ := List.mem_map.mp m
  exact T.emp p hp
/-- an object that is neither a list nor a table is not followed -/
theorem h0_free (T : Tbs K s.heap cs) (ha : s.heap.get? a = some { cls := .type "list", data := .seq vs.toArray }) {b : Addr} {o : Obj} (e : s.heap.get? b = some o) (d1 : ∀ xs k, o.data ≠ .seq xs k) (d2 : o.data ≠ .fields #[]) : H0 cs a u b = none := by
  refine h0_no (fun m => ?_) fun z => ?_
  · have q := T.at_ m
    rw [e] at q
    exact d2 (by rw [Option.some.inj q] <;> rfl)
  · subst z
    rw [e] at ha
    exact d1 _ _ (congrArg Obj.data (Option.some.inj ha))
theorem dict_free {o : Obj} {es : Array DictEntry} {ep : Nat} (d : o.data = .dict es ep) : (∀ xs k, o.data ≠ .seq xs k) ∧ o.data ≠ .fields #[] := by
  rw [d]
  exact ⟨fun _ _ z => (nomatch z), fun z => (nomatch z)⟩
theorem plain_free {o : Obj} (d : o.data = .plain) : (∀ xs k, o.data ≠ .seq xs k) ∧ o.data ≠ .fields #[] := by
  rw [d]
  exact ⟨fun _ _ z => (nomatch z), fun z => (nomatch z)⟩
/-- the ground under the law's def -/
structure Grd (P : Program) (w : World) (K : PySem.W.Frag) (mg : Str → Option Value) (cs : List (Addr × Addr)) (H : Hp) (s : Shared) : Prop where
  env : Env0 P w K mg (hidT s.heap H) callerA [] s H
  kin : K.In (hidT s.heap H)
  glo : (hidT s.heap H).Ns mainGlobals mg
  tab : ∀ p ∈ cs, GxR.TabB (hidT s.heap H) mg p.1 p.2
theorem grd_of (D : Hd0 K mg mb s) (T : Tbs K s.heap cs) (ha : s.heap.get? a = some { cls := .type "list", data := .seq vs.toArray }) (hu : u ≠ none → K.lookup a = none) (ok : HOk P w (H0 cs a u) s.heap) : Grd P w K mg cs (H0 cs a u) s := by
  have down : ∀ {b : Addr} {o : Obj}, s.heap.get? b = some o → (∀ xs k, o.data ≠ .seq xs k) ∧ o.data ≠ .fields #[] → (hidT s.heap (H0 cs a u)).get? b = some o := fun e d => hidT_get e (h0_free T ha e d.1 d.2)
  have ns : ∀ {b : Addr} {m : Str → Option Value}, s.heap.Ns b m → (hidT s.heap (H0 cs a u)).Ns b m := fun x => by
    obtain ⟨o, es, ep, e, d, r⟩ := x
    exact ⟨o, es, ep, down e (dict_free d), d, r⟩
  have kin : K.In (hidT s.heap (H0 cs a u)) := fun b o e => by
    refine hidT_get (D.kin b o e) ?_
    by_cases m : b ∈ cs.map Prod.snd
    · obtain ⟨p, hp, rfl⟩ := List.mem_map.mp m
      rw [T.out p hp] at e
      cases e
    · by_cases z : b = a
      · subst z
        rw [h0_a m]
        cases hu1 : u with
        | none => rfl
        | some v =>
          rw [hu (by rw [hu1]; exact Option.some_ne_none v)] at e
          cases e
      · exact h0_no m z
  refine ⟨⟨rfl, ⟨kin, ns D.glo, ⟨mb, ns D.blt, D.boo⟩, ?_⟩, fun b o e => of_hidT e, Nat.le_of_eq (hidT_size _ _), trivial, fun b hb => absurd (show b ∈ ([] : List Addr) from hb) List.not_mem_nil, ok, .of_eq D.gen⟩, kin, ns D.glo, fun p hp => ⟨?_, ?_, fun z => ?_⟩⟩
  · obtain ⟨mc, n1, n2⟩ := D.lim
    exact ⟨mc, ns n1, n2⟩
  · obtain ⟨o, us, f1, f2, f3, f4, f5, f6, f7, e, c1, c2, c3, rest⟩ := T.cod p hp
    refine ⟨o, us, f1, f2, f3, f4, f5, f6, f7, down e ?_, c1, c2, c3, rest⟩
    rw [c2]
    refine ⟨fun _ _ z => (nomatch z), fun z => ?_⟩
    have z' : us = #[] := by injection z
    rw [z'] at c3
    simp at c3
  · obtain ⟨bm, o, b1, b2, b3, b4, b5, b6⟩ := D.bmo
    have g1 : bm ≠ mainGlobals := fun z => by
      obtain ⟨og, es, ep, e, d, _⟩ := D.glo
      rw [← z, b3] at e
      rw [← Option.some.inj e, b6] at d
      cases d
    have g2 : bm ≠ p.2 := fun z => by
      have q := T.emp p hp
      rw [← z, b3] at q
      rw [Option.some.inj q] at b6
      cases b6
    exact ⟨bm, o, b1, b2, g1, g2, down b3 (plain_free b6), b4, b5, b6⟩
  · obtain ⟨og, es, ep, e, d, _⟩ := D.glo
    have q := T.emp p hp
    rw [← z, e] at q
    rw [Option.some.inj q] at d
    cases d
/-- the law is called with its script -/
theorem law_callX {k : Nat} {fa : Addr} {fd : FuncData} {x : Str} {sp : Sp} {ns : List Int} (D : Hd0 K mg mb s) (T : Tbs K s.heap cs) (ha : s.heap.get? a = some { cls := .type "list", data := .seq vs.toArray }) (hi : IntsAre vs ns) (hl : ns.length ≤ sizeLine) (hr : Room k callerA)
    (ok : ∀ base : Heap, K.In base → base.Ns mainGlobals mg → (∀ p ∈ cs, GxR.TabB base mg p.1 p.2) → FnOk P w K mg base CX k fa fd [x] sp) (bd : ∀ (s : Shared) (v : Value), BindsTo s fd ⟨[v], []⟩ [(x, v)])
    (hsp : ∀ H : Hp, (∀ p ∈ cs, H p.2 = some (TabX p.2)) → SqL K H a (ns.map V.int) → sp [.ref a] H (fun v H' => v = .bl true ∧ ∀ p ∈ cs, H' p.2 = some (TabX p.2)) fun _ _ _ => False)
    (hx : ∀ H e s', CX [] H s (fun _ _ _ => False) e s' → False) :
    codeAny (model P w) callerA (.call (.ref fa) ⟨[.ref a], []⟩) (fun r s' => r = .ok (.ret (.bool true)) ∧ OldK s.heap s'.heap ∧ s'.os = s.os ∧ AllBare s'.gens) s := by
  have rv := vals_ints hi
  have anot : a ∉ cs.map Prod.snd := fun m => by
    have q := T.at_ m
    rw [ha] at q
    have q2 := congrArg Obj.data (Option.some.inj q)
    cases q2
  have tabs : ∀ {u : Option HO}, ∀ p ∈ cs, H0 cs a u p.2 = some (TabX p.2) := fun p hp => h0_tab (List.mem_map.mpr ⟨p, hp, rfl⟩)
  -- whatever is followed of the script
  have go : ∀ u : Option HO, (u = none ∨ u = some (.frz { cls := .type "list", data := .seq vs.toArray } (.lst (ns.map V.int)))) → (u ≠ none → K.lookup a = none) → SqL K (H0 cs a u) a (ns.map V.int) →
      codeAny (model P w) callerA (.call (.ref fa) ⟨[.ref a], []⟩) (fun r s' => r = .ok (.ret (.bool true)) ∧ OldK s.heap s'.heap ∧ s'.os = s.os ∧ AllBare s'.gens) s := fun u hu hk hs => by
    have hok : HOk P w (H0 cs a u) s.heap := fun b o e => by
      by_cases m : b ∈ cs.map Prod.snd
      · rw [h0_tab m] at e
        cases e
        exact tabx_ok (T.at_ m) (show TriplesOk [] from trivial)
      · by_cases z : b = a
        · subst z
          rw [h0_a m] at e
          rcases hu with rfl | rfl
          · cases e
          · cases e
            exact ⟨ha, by rw [List.length_map]; exact hl, vs, 0, rv, ha⟩
        · rw [h0_no m z] at e
          cases e
    have G := grd_of (u := u) D T ha hk hok
    refine codeAny_mono ((ok _ G.kin G.glo G.tab).run callerA [] s _ ⟨[.ref a], []⟩ [.ref a] [.ref a] _ _ hr G.env (bd s (.ref a)) (.cons rfl .nil) (hsp _ tabs hs)) fun r s' h => ?_
    match r, h with
    | .error e, h => exact (hx _ e s' h).elim
    | .ok .next, h => exact False.elim h
    | .ok .brk, h => exact False.elim h
    | .ok .cont, h => exact False.elim h
    | .ok (.ret v0), h =>
      obtain ⟨v, H', os, bare, un, hok', r', q, qt⟩ := h
      subst q
      obtain rfl : v0 = Value.bool true := r'
      have same : ∀ b o, b ∉ cs.map Prod.snd → s.heap.get? b = some o → s'.heap.get? b = some o := fun b o m e => by
        by_cases z : b = a
        · subst z
          rcases hu with rfl | rfl
          · exact un.keep b o e (h0_a m) List.not_mem_nil List.not_mem_nil
          · have f2 := hok' b _ (un.frzs b _ _ (h0_a m))
            rw [ha] at e
            rw [← Option.some.inj e]
            exact f2.1
        · exact un.keep b o e (h0_no m z) List.not_mem_nil List.not_mem_nil
      have grew : ∀ p ∈ cs, ∃ more : Array Value, s'.heap.get? p.2 = some { cls := .none, data := .fields more } := fun p hp => by
        obtain ⟨⟨more, e, _⟩, _⟩ := hok' p.2 _ (qt p hp)
        exact ⟨more, e⟩
      refine ⟨rfl, ⟨fun b o e => ?_, fun b o e => ?_⟩, os, bare⟩
      · by_cases m : b ∈ cs.map Prod.snd
        · obtain ⟨p, hp, rfl⟩ := List.mem_map.mp m
          obtain ⟨more, g⟩ := grew p hp
          have eo : o = tabO := Option.some.inj (e.symm.trans (T.emp p hp))
          subst eo
          exact .inr (.inl ⟨((T.cod p hp).tab (ps := #[]) (T.emp p hp)).isCodeTable, rfl, #[], more, rfl, by rw [Array.empty_append]; exact g⟩)
        · exact .inl (same b o m e)
      · by_cases m : b ∈ cs.map Prod.snd
        · obtain ⟨p, hp, rfl⟩ := List.mem_map.mp m
          obtain ⟨more, g⟩ := grew p hp
          exact ⟨_, g⟩
        · exact ⟨o, same b o m e⟩
  cases hk : K.lookup a with
  | none => exact go _ (.inr rfl) (fun _ => hk) (.inl (.inr ⟨_, h0_a anot⟩))
  | some o =>
    have e := (D.kin a o hk).symm.trans ha
    have eo := Option.some.inj e
    subst eo
    exact go none (.inl rfl) (fun z => absurd rfl z) (.inr ⟨_, vs.toArray, _, hk, rfl, rfl, rfl, by rw [List.size_toArray, hi.length]; exact hl, by simpa using rv⟩)
end
/-- what the head's defs have: their code objects, with empty tables -/
def Rec0 (q : Program) (mg : Str → Option Value) (h : Heap) : Prop := ∀ d ∈ recsOf q, ∃ a o fd c P, mg d.name = some (.ref a) ∧ h.get? a = some o ∧ o.data = .func fd ∧ fd.code = .ref c ∧ h.IsCode c P #[] ∧ h.TableAt c P #[]
theorem tab_emp {q : Program} {mg : Str → Option Value} {h : Heap} {K : PySem.W.Frag} (R : Rec0 q mg h) (X : K.In h) {nm : Str} {f c Pt : Addr} {fd : FuncData} {e : Value} {dd : Option Addr} {sl : Array (Option Value)}
    (hrec : ((recsOf q).any fun e => e.name == nm) = true) (hm : mg nm = some (.ref f)) (hk : K.lookup f = some ⟨e, dd, .func fd, sl⟩) (hc : fd.code = .ref c) (C : PySem.W.CodeHd h c Pt) : h.get? Pt = some tabO := by
  obtain ⟨d, hd, hn⟩ := List.any_eq_true.mp hrec
  obtain ⟨f1, o1, fd1, c1, P1, e1, e2, e3, e4, _, ⟨⟨oc, vc, g1, _, g3, g4⟩, g5⟩⟩ := R d hd
  rw [beq_iff_eq.mp hn, hm] at e1
  have ef : f = f1 := Value.ref.inj (Option.some.inj e1)
  subst ef
  rw [X f _ hk] at e2
  have eo := Option.some.inj e2
  subst eo
  have efd : fd = fd1 := by injection e3
  subst efd
  rw [hc] at e4
  have ec : c = c1 := Value.ref.inj e4
  subst ec
  obtain ⟨o2, us, _, _, _, _, _, _, _, k1, _, k2, k3, _⟩ := C
  rw [k1] at g1
  have eo2 := Option.some.inj g1
  subst eo2
  rw [k2] at g3
  have eu : us = vc := by injection g3
  subst eu
  rw [k3] at g4
  have eP : Pt = P1 := Value.ref.inj (Option.some.inj g4)
  subst eP
  exact g5
def LawX (l : PySem.W.OpenLaw) (w : World) (K : PySem.W.Frag) (CX : CXT) (k n : Nat) (x : Str) (mg : Str → Option Value) (fa : Addr) (h : Heap) : Prop :=
  ∃ (fd : FuncData) (cs : List (Addr × Addr)) (sp : Sp), Tbs K h cs ∧ (∀ (s : Shared) (v : Value), BindsTo s fd ⟨[v], []⟩ [(x, v)]) ∧
    (∀ (H : Hp) (a : Addr) (ns : List Int), ns.length ≤ n → (∀ z ∈ ns, Builtin.Int.intBits z ≤ 1048576) → (∀ p ∈ cs, H p.2 = some (TabX p.2)) → SqL K H a (ns.map V.int) → sp [.ref a] H (fun v H' => v = .bl true ∧ ∀ p ∈ cs, H' p.2 = some (TabX p.2)) fun _ _ _ => False) ∧
    ∀ base : Heap, K.In base → base.Ns mainGlobals mg → (∀ p ∈ cs, GxR.TabB base mg p.1 p.2) → FnOk l.prog w K mg base CX k fa fd [x] sp
theorem walk_X {l : PySem.W.OpenLaw} {n k : Nat} {q : Program} {loose : List Str} {XP : (Str → Option Value) → Heap → Prop} {YP : World → Heap → Prop} {d : DefRec} {Kf : Params → PySem.W.Frag} {CX : World → CXT} {x : Str}
    (h1 : l.most = some n) (h2 : n ≤ sizeLine) (h3 : d.params.defaults = []) (h4 : Room k callerA) (h5 : ∀ (w : World) (h : Heap), YP w h → (Kf w.params).In h)
    (F : ∀ (w : World) (mg : Str → Option Value) (fa : Addr) (h : Heap), YP w h → (Kf w.params).In h → h.Ns mainGlobals mg → mg d.name = some (.ref fa) → Rec0 q mg h → LawX l w (Kf w.params) (CX w) k n x mg fa h)
    (h6 : ∀ (w : World) (H : Hp) (s : Shared) (e : Value) (s' : Shared), CX w [] H s (fun _ _ _ => False) e s' → False) :
    PySem.W.WalkO q loose XP YP l.row.toRowW d [] (fun f vs => PySem.call f vs) := by
  refine Att.attach_callB h1 h3 fun w _ s₁ mg mb fa o pm cd doc a vs ns G Y _ _ _ hmg hobj hints hlen hbits hg => ?_
  have X := h5 w _ Y
  obtain ⟨fd, cs, sp, T, bd, hsp, ok⟩ := F w mg fa _ Y X G.T.g hmg G.T.tab
  exact law_callX ⟨X, G.T.g, G.T.b, G.T.builtins, G.T.nolimit, hg, G.T.bmain⟩ T hobj hints (Nat.le_trans hlen h2) h4 ok bd (fun H hT hS => hsp H a ns hlen hbits hT hS) fun H e s' => h6 w H s₁ e s'
end KC
set_option Elab.async false
set_option linter.all false
set_option maxRecDepth 100000
set_option maxHeartbeats 4000000
namespace K07
open PySem PySem.Spec PyProof.Rows L2 GX KC Evl KQ KW M07
theorem top_of {l : PySem.W.OpenLaw} {q : Program} {w : World} {K : PySem.W.Frag} {h : Heap} {mg : Str → Option Value} {fa : Addr} (X : K.In h) (G : h.Ns mainGlobals mg) (R : Rec0 q mg h) (hfa : mg "law" = some (.ref fa)) (r5 : ((recsOf q).any fun e => e.name == "is_range_low_enough") = true)  (r6 : ((recsOf q).any fun e => e.name == "shows_least") = true)
    {f0 : Addr} {od0 an0 : Option Addr} {sl0 : Array (Option Value)} {oc0 kV0 dc0 pm0 ct0 : Value} {cd0 : Value}
    (a0 : PySem.W.nsIn K mainGlobals "running_sums" = some (some (.ref f0))) (l0 : K.lookup f0 = some ⟨oc0, od0, .func (PySem.W.fnOf "running_sums" "running_sums" (defArgs s_running_sums) (defBody s_running_sums) (defScope s_running_sums) .none kV0 dc0 pm0 an0 cd0 ct0), sl0⟩) (c0 : PySem.W.codeIn K cd0 "running_sums" = true) (k0 : PySem.W.keepIn K (.ref f0) = true)
    {f1 : Addr} {od1 an1 : Option Addr} {sl1 : Array (Option Value)} {oc1 kV1 dc1 pm1 ct1 : Value} {cd1 : Value}
    (a1 : PySem.W.nsIn K mainGlobals "parted_values" = some (some (.ref f1))) (l1 : K.lookup f1 = some ⟨oc1, od1, .func (PySem.W.fnOf "parted_values" "parted_values" (defArgs s_parted_values) (defBody s_parted_values) (defScope s_parted_values) .none kV1 dc1 pm1 an1 cd1 ct1), sl1⟩) (c1 : PySem.W.codeIn K cd1 "parted_values" = true) (k1 : PySem.W.keepIn K (.ref f1) = true)
    {f2 : Addr} {od2 an2 : Option Addr} {sl2 : Array (Option Value)} {oc2 kV2 dc2 pm2 ct2 : Value} {cd2 : Value}
    (a2 : PySem.W.nsIn K mainGlobals "range_values" = some (some (.ref f2))) (l2 : K.lookup f2 = some ⟨oc2, od2, .func (PySem.W.fnOf "range_values" "range_values" (defArgs s_range_values) (defBody s_range_values) (defScope s_range_values) .none kV2 dc2 pm2 an2 cd2 ct2), sl2⟩) (c2 : PySem.W.codeIn K cd2 "range_values" = true) (k2 : PySem.W.keepIn K (.ref f2) = true)
    {f3 : Addr} {od3 an3 : Option Addr} {sl3 : Array (Option Value)} {oc3 kV3 dc3 pm3 ct3 : Value} {cd3 : Value}
    (a3 : PySem.W.nsIn K mainGlobals "range_cut" = some (some (.ref f3))) (l3 : K.lookup f3 = some ⟨oc3, od3, .func (PySem.W.fnOf "range_cut" "range_cut" (defArgs s_range_cut) (defBody s_range_cut) (defScope s_range_cut) .none kV3 dc3 pm3 an3 cd3 ct3), sl3⟩) (c3 : PySem.W.codeIn K cd3 "range_cut" = true) (k3 : PySem.W.keepIn K (.ref f3) = true)
    {f4 : Addr} {od4 an4 : Option Addr} {sl4 : Array (Option Value)} {oc4 kV4 dc4 pm4 ct4 : Value} {cd4 : Value}
    (a4 : PySem.W.nsIn K mainGlobals "alphabetic_words" = some (some (.ref f4))) (l4 : K.lookup f4 = some ⟨oc4, od4, .func (PySem.W.fnOf "alphabetic_words" "alphabetic_words" (defArgs s_alphabetic_words) (defBody s_alphabetic_words) (defScope s_alphabetic_words) .none kV4 dc4 pm4 an4 cd4 ct4), sl4⟩) (c4 : PySem.W.codeIn K cd4 "alphabetic_words" = true) (k4 : PySem.W.keepIn K (.ref f4) = true)
    {f5 : Addr} {od5 an5 : Option Addr} {sl5 : Array (Option Value)} {oc5 kV5 dc5 pm5 ct5 : Value} {g5 P1 : Addr} {vc5 : Value} {vd5 : Option Addr} {us5 : Array Value} {vl5 : Array (Option Value)}
    (a5 : PySem.W.nsIn K mainGlobals "is_range_low_enough" = some (some (.ref f5))) (l5 : K.lookup f5 = some ⟨oc5, od5, .func (PySem.W.fnOf "is_range_low_enough" "is_range_low_enough" (defArgs s_is_range_low_enough) (defBody s_is_range_low_enough) (defScope s_is_range_low_enough) .none kV5 dc5 pm5 an5 (.ref g5) ct5), sl5⟩) (c5 : PySem.W.codeIn K (.ref g5) "is_range_low_enough" = true) (k5 : PySem.W.keepIn K (.ref f5) = true)
    (v5 : K.lookup g5 = some ⟨vc5, vd5, .fields us5, vl5⟩) (p5 : us5[11]? = some (.ref P1)) (t5 : PySem.W.codeHdIn K g5 P1 = true) (n5 : K.lookup P1 = none)
    {f6 : Addr} {od6 an6 : Option Addr} {sl6 : Array (Option Value)} {oc6 kV6 dc6 pm6 ct6 : Value} {g6 P2 : Addr} {vc6 : Value} {vd6 : Option Addr} {us6 : Array Value} {vl6 : Array (Option Value)}
    (a6 : PySem.W.nsIn K mainGlobals "shows_least" = some (some (.ref f6))) (l6 : K.lookup f6 = some ⟨oc6, od6, .func (PySem.W.fnOf "shows_least" "shows_least" (defArgs s_shows_least) (defBody s_shows_least) (defScope s_shows_least) .none kV6 dc6 pm6 an6 (.ref g6) ct6), sl6⟩) (c6 : PySem.W.codeIn K (.ref g6) "shows_least" = true) (k6 : PySem.W.keepIn K (.ref f6) = true)
    (v6 : K.lookup g6 = some ⟨vc6, vd6, .fields us6, vl6⟩) (p6 : us6[11]? = some (.ref P2)) (t6 : PySem.W.codeHdIn K g6 P2 = true) (n6 : K.lookup P2 = none)
    {f7 : Addr} {od7 an7 : Option Addr} {sl7 : Array (Option Value)} {oc7 kV7 dc7 pm7 ct7 : Value} {cd7 : Value}
    (a7 : PySem.W.nsIn K mainGlobals "_law_cell" = some (some (.ref f7))) (l7 : K.lookup f7 = some ⟨oc7, od7, .func (PySem.W.fnOf "_law_cell" "_law_cell" (defArgs s_law_cell) (defBody s_law_cell) (defScope s_law_cell) .none kV7 dc7 pm7 an7 cd7 ct7), sl7⟩) (c7 : PySem.W.codeIn K cd7 "_law_cell" = true) (k7 : PySem.W.keepIn K (.ref f7) = true)
    {f8 : Addr} {od8 an8 : Option Addr} {sl8 : Array (Option Value)} {oc8 kV8 dc8 pm8 ct8 : Value} {cd8 : Value}
    (a8 : PySem.W.nsIn K mainGlobals "_law_weights" = some (some (.ref f8))) (l8 : K.lookup f8 = some ⟨oc8, od8, .func (PySem.W.fnOf "_law_weights" "_law_weights" (defArgs s_law_weights) (defBody s_law_weights) (defScope s_law_weights) .none kV8 dc8 pm8 an8 cd8 ct8), sl8⟩) (c8 : PySem.W.codeIn K cd8 "_law_weights" = true) (k8 : PySem.W.keepIn K (.ref f8) = true)
    {f9 : Addr} {od9 an9 : Option Addr} {sl9 : Array (Option Value)} {oc9 kV9 dc9 pm9 ct9 : Value} {cd9 : Value}
    (a9 : PySem.W.nsIn K mainGlobals "_law_trees" = some (some (.ref f9))) (l9 : K.lookup f9 = some ⟨oc9, od9, .func (PySem.W.fnOf "_law_trees" "_law_trees" (defArgs s_law_trees) (defBody s_law_trees) (defScope s_law_trees) .none kV9 dc9 pm9 an9 cd9 ct9), sl9⟩) (c9 : PySem.W.codeIn K cd9 "_law_trees" = true) (k9 : PySem.W.keepIn K (.ref f9) = true)
    {f10 : Addr} {od10 an10 : Option Addr} {sl10 : Array (Option Value)} {oc10 kV10 dc10 pm10 ct10 : Value} {cd10 : Value}
    (a10 : PySem.W.nsIn K mainGlobals "_law_values" = some (some (.ref f10))) (l10 : K.lookup f10 = some ⟨oc10, od10, .func (PySem.W.fnOf "_law_values" "_law_values" (defArgs s_law_values) (defBody s_law_values) (defScope s_law_values) .none kV10 dc10 pm10 an10 cd10 ct10), sl10⟩) (c10 : PySem.W.codeIn K cd10 "_law_values" = true) (k10 : PySem.W.keepIn K (.ref f10) = true)
    {f11 : Addr} {od11 an11 : Option Addr} {sl11 : Array (Option Value)} {oc11 kV11 dc11 pm11 ct11 : Value} {cd11 : Value}
    (a11 : PySem.W.nsIn K mainGlobals "_law_cuts" = some (some (.ref f11))) (l11 : K.lookup f11 = some ⟨oc11, od11, .func (PySem.W.fnOf "_law_cuts" "_law_cuts" (defArgs s_law_cuts) (defBody s_law_cuts) (defScope s_law_cuts) .none kV11 dc11 pm11 an11 cd11 ct11), sl11⟩) (c11 : PySem.W.codeIn K cd11 "_law_cuts" = true) (k11 : PySem.W.keepIn K (.ref f11) = true)
    {f12 : Addr} {od12 an12 : Option Addr} {sl12 : Array (Option Value)} {oc12 kV12 dc12 pm12 ct12 : Value} {cd12 : Value}
    (a12 : PySem.W.nsIn K mainGlobals "_law_judged" = some (some (.ref f12))) (l12 : K.lookup f12 = some ⟨oc12, od12, .func (PySem.W.fnOf "_law_judged" "_law_judged" (defArgs s_law_judged) (defBody s_law_judged) (defScope s_law_judged) .none kV12 dc12 pm12 an12 cd12 ct12), sl12⟩) (c12 : PySem.W.codeIn K cd12 "_law_judged" = true) (k12 : PySem.W.keepIn K (.ref f12) = true)
    {f13 : Addr} {od13 an13 : Option Addr} {sl13 : Array (Option Value)} {oc13 kV13 dc13 pm13 ct13 : Value} {cd13 : Value}
    (a13 : PySem.W.nsIn K mainGlobals "law" = some (some (.ref f13))) (l13 : K.lookup f13 = some ⟨oc13, od13, .func (PySem.W.fnOf "law" "law" (defArgs s_law) (defBody s_law) (defScope s_law) .none kV13 dc13 pm13 an13 cd13 ct13), sl13⟩) (c13 : PySem.W.codeIn K cd13 "law" = true) (k13 : PySem.W.keepIn K (.ref f13) = true)
    (z_len : PySem.W.nsIn K mainGlobals "len" = some none)
    (z_int : PySem.W.nsIn K mainGlobals "int" = some none)
    (z_min : PySem.W.nsIn K mainGlobals "min" = some none)
    (z_max : PySem.W.nsIn K mainGlobals "max" = some none)
    (z_list : PySem.W.nsIn K mainGlobals "list" = some none)
    (z_sorted : PySem.W.nsIn K mainGlobals "sorted" = some none)
    (z_sum : PySem.W.nsIn K mainGlobals "sum" = some none)
    (z_range : PySem.W.nsIn K mainGlobals "range" = some none)
    (z_enumerate : PySem.W.nsIn K mainGlobals "enumerate" = some none)
    (z_zip : PySem.W.nsIn K mainGlobals "zip" = some none)
    (z_any : PySem.W.nsIn K mainGlobals "any" = some none)
    (z_isinstance : PySem.W.nsIn K mainGlobals "isinstance" = some none)
    (z_bool : PySem.W.nsIn K mainGlobals "bool" = some none)
    (z_reversed : PySem.W.nsIn K mainGlobals "reversed" = some none)
    (zz_str : PySem.W.nsIn K mainGlobals "str" = some none)
    (zz_tuple : PySem.W.nsIn K mainGlobals "tuple" = some none)
    (zz_all : PySem.W.nsIn K mainGlobals "all" = some none)
    : LawX l w K CX0 14 63 "script" mg fa h := by
  have e := hfa.symm.trans (PySem.W.mg_of X G a13)
  cases e
  have hd5 : PySem.W.CodeHd h g5 P1 := PySem.W.codeHd_of_K X t5
  have em5 : h.get? P1 = some tabO := tab_emp R X r5 (PySem.W.mg_of X G a5) l5 rfl hd5
  have hd6 : PySem.W.CodeHd h g6 P2 := PySem.W.codeHd_of_K X t6
  have em6 : h.get? P2 = some tabO := tab_emp R X r6 (PySem.W.mg_of X G a6) l6 rfl hd6
  have T1 : ∀ p ∈ ([(g5, P1), (g6, P2)] : List (Addr × Addr)), h.get? p.2 = some tabO := by
    intro p hp
    simp only [List.mem_cons, List.not_mem_nil, or_false] at hp
    rcases hp with rfl | rfl
    · exact em5
    · exact em6
  have T2 : ∀ p ∈ ([(g5, P1), (g6, P2)] : List (Addr × Addr)), K.lookup p.2 = none := by
    intro p hp
    simp only [List.mem_cons, List.not_mem_nil, or_false] at hp
    rcases hp with rfl | rfl
    · exact n5
    · exact n6
  have T3 : ∀ p ∈ ([(g5, P1), (g6, P2)] : List (Addr × Addr)), PySem.W.CodeHd h p.1 p.2 := by
    intro p hp
    simp only [List.mem_cons, List.not_mem_nil, or_false] at hp
    rcases hp with rfl | rfl
    · exact hd5
    · exact hd6
  refine ⟨PySem.W.fnOf "law" "law" (defArgs s_law) (defBody s_law) (defScope s_law) .none kV13 dc13 pm13 an13 cd13 ct13, [(g5, P1), (g6, P2)], spLaw K P1 P2, ⟨T1, T2, T3⟩, fun s v => .of_eq rfl, fun H a ns hl hb hT hS => ⟨a, ns, rfl, hS, hl, hT _ List.mem_cons_self, hT _ (List.mem_cons_of_mem _ List.mem_cons_self), fun H2 e2 => ⟨rfl, fun p hp => e2 _ _ (hT p hp)⟩⟩, fun base kb gb TB => ?_⟩
  have B : Bs mg := ⟨PySem.W.mg_none_of X G z_len, PySem.W.mg_none_of X G z_int, PySem.W.mg_none_of X G z_min, PySem.W.mg_none_of X G z_max, PySem.W.mg_none_of X G z_list, PySem.W.mg_none_of X G z_sorted, PySem.W.mg_none_of X G z_sum, PySem.W.mg_none_of X G z_range, PySem.W.mg_none_of X G z_enumerate, PySem.W.mg_none_of X G z_zip, PySem.W.mg_none_of X G z_any, PySem.W.mg_none_of X G z_isinstance, PySem.W.mg_none_of X G z_bool, PySem.W.mg_none_of X G z_reversed⟩
  have TB5 : GxR.TabB base mg g5 P1 := TB (g5, P1) (by simp)
  have TB6 : GxR.TabB base mg g6 P2 := TB (g6, P2) (by simp)
  have B2 : Bs2 mg := ⟨PySem.W.mg_none_of X G zz_str, PySem.W.mg_none_of X G zz_tuple, PySem.W.mg_none_of X G zz_all⟩
  have F0 := fun_mk (st := s_running_sums) l0 c0 k0
  have C_running_sums := cal_of (P := l.prog) (w := w) (base := base) F0 (PySem.W.mg_of X G a0) (F0.binds (ps := ["weights"]) fun _ _ _ _ _ _ us hl => match us, hl with | [_], _ => rfl) (ok_running_sums (k := 0) F0 B)
  have F1 := fun_mk (st := s_parted_values) l1 c1 k1
  have C_parted_values := cal_of (P := l.prog) (w := w) (base := base) F1 (PySem.W.mg_of X G a1) (F1.binds (ps := ["table", "start", "end"]) fun _ _ _ _ _ _ us hl => match us, hl with | [_, _, _], _ => rfl) (ok_parted_values (k := 0) F1 B)
  have F2 := fun_mk (st := s_range_values) l2 c2 k2
  have C_range_values := cal_of (P := l.prog) (w := w) (base := base) F2 (PySem.W.mg_of X G a2) (F2.binds (ps := ["weights"]) fun _ _ _ _ _ _ us hl => match us, hl with | [_], _ => rfl) (ok_range_values (k := 0) F2 B C_running_sums C_parted_values)
  have F3 := fun_mk (st := s_range_cut) l3 c3 k3
  have C_range_cut := cal_of (P := l.prog) (w := w) (base := base) F3 (PySem.W.mg_of X G a3) (F3.binds (ps := ["table", "start", "end"]) fun _ _ _ _ _ _ us hl => match us, hl with | [_, _, _], _ => rfl) (ok_range_cut (k := 0) F3 B C_parted_values)
  have F4 := fun_mk (st := s_alphabetic_words) l4 c4 k4
  have C_alphabetic_words := cal_of (P := l.prog) (w := w) (base := base) F4 (PySem.W.mg_of X G a4) (F4.binds (ps := ["weights"]) fun _ _ _ _ _ _ us hl => match us, hl with | [_], _ => rfl) (ok_alphabetic_words (k := 0) F4 B C_range_values C_range_cut)
  have F5 : FunT K "is_range_low_enough" "is_range_low_enough" s_is_range_low_enough f5 _ g5 := ⟨⟨oc5, od5, kV5, dc5, pm5, an5, ct5, sl5, rfl, l5, c5⟩, k5⟩
  have C_is_range_low_enough := cal_of (P := l.prog) (w := w) (base := base) F5.fn (PySem.W.mg_of X G a5) (F5.fn.binds (ps := ["sums", "table", "start", "end"]) fun _ _ _ _ _ _ us hl => match us, hl with | [_, _, _, _], _ => rfl) (ok_is_range_low_enough (k := 0) F5 TB5 B B2 C_parted_values)
  have F6 : FunT K "shows_least" "shows_least" s_shows_least f6 _ g6 := ⟨⟨oc6, od6, kV6, dc6, pm6, an6, ct6, sl6, rfl, l6, c6⟩, k6⟩
  have C_shows_least := cal_of (P := l.prog) (w := w) (base := base) F6.fn (PySem.W.mg_of X G a6) (F6.fn.binds (ps := ["weights", "cost", "table"]) fun _ _ _ _ _ _ us hl => match us, hl with | [_, _, _], _ => rfl) (ok_shows_least (k := 0) F6 TB6 B B2 C_running_sums C_is_range_low_enough)
  have F7 := fun_mk (st := s_law_cell) l7 c7 k7
  have C_law_cell := cal_of (P := l.prog) (w := w) (base := base) F7 (PySem.W.mg_of X G a7) (F7.binds (ps := ["script", "k"]) fun _ _ _ _ _ _ us hl => match us, hl with | [_, _], _ => rfl) (ok_cell (k := 0) F7 B)
  have F8 := fun_mk (st := s_law_weights) l8 c8 k8
  have C_law_weights := cal_of (P := l.prog) (w := w) (base := base) F8 (PySem.W.mg_of X G a8) (F8.binds (ps := ["script", "first", "many"]) fun _ _ _ _ _ _ us hl => match us, hl with | [_, _, _], _ => rfl) (ok_weights (k := 0) F8 B C_law_cell)
  have F9 := fun_mk (st := s_law_trees) l9 c9 k9
  have C_law_trees := cal_of (P := l.prog) (w := w) (base := base) F9 (PySem.W.mg_of X G a9) (F9.binds (ps := ["weights"]) fun _ _ _ _ _ _ us hl => match us, hl with | [_], _ => rfl) (ok_law_trees (P := l.prog) (w := w) (k := 0) F9 B)
  have F10 := fun_mk (st := s_law_values) l10 c10 k10
  have C_law_values := cal_of (P := l.prog) (w := w) (base := base) F10 (PySem.W.mg_of X G a10) (F10.binds (ps := ["weights"]) fun _ _ _ _ _ _ us hl => match us, hl with | [_], _ => rfl) (ok_law_values (k := 0) F10 B)
  have F11 := fun_mk (st := s_law_cuts) l11 c11 k11
  have C_law_cuts := cal_of (P := l.prog) (w := w) (base := base) F11 (PySem.W.mg_of X G a11) (F11.binds (ps := ["table", "many"]) fun _ _ _ _ _ _ us hl => match us, hl with | [_, _], _ => rfl) (ok_law_cuts (k := 0) F11 B)
  have F12 := fun_mk (st := s_law_judged) l12 c12 k12
  have C_law_judged := cal_of (P := l.prog) (w := w) (base := base) F12 (PySem.W.mg_of X G a12) (F12.binds (ps := ["weights", "price", "table"]) fun _ _ _ _ _ _ us hl => match us, hl with | [_, _, _], _ => rfl) (ok_law_judged (k := 0) F12 B)
  have F13 := fun_mk (st := s_law) l13 c13 k13
  exact ok_law (k := 0) F13 B C_law_cell C_law_weights C_law_values C_range_values C_alphabetic_words C_law_cuts C_law_trees C_shows_least C_law_judged
end K07
open PySem PySem.W PyProof.Rows
set_option maxHeartbeats 0 in
theorem PySem.Challenge.cw_kraftroom_k07_whole_alphabetic_codes_holds : PySem.Challenge.rw_kraftroom_k07_whole_alphabetic_codes.Holds := by
  w_on; o_law; k_head; (case hw => w_witness2)
  k_fill
  refine KC.walk_X (l := PySem.Challenge.rw_kraftroom_k07_whole_alphabetic_codes) (n := 63) (k := 14) (x := "script") (CX := fun _ => L2.CX0) rfl (by decide) rfl ⟨rfl, by decide, by decide⟩ (fun w h Y => PySem.W.kIn_of Y) ?F (fun _ _ _ _ _ h => h)
  case F =>
    intro w mg fa h Y KX G hmg R
    refine' K07.top_of KX G R hmg ?r5 ?r6 ?a0 ?l0 ?c0 ?k0 ?a1 ?l1 ?c1 ?k1 ?a2 ?l2 ?c2 ?k2 ?a3 ?l3 ?c3 ?k3 ?a4 ?l4 ?c4 ?k4 ?a5 ?l5 ?c5 ?k5 ?v5 ?p5 ?t5 ?n5 ?a6 ?l6 ?c6 ?k6 ?v6 ?p6 ?t6 ?n6 ?a7 ?l7 ?c7 ?k7 ?a8 ?l8 ?c8 ?k8 ?a9 ?l9 ?c9 ?k9 ?a10 ?l10 ?c10 ?k10 ?a11 ?l11 ?c11 ?k11 ?a12 ?l12 ?c12 ?k12 ?a13 ?l13 ?c13 ?k13 ?z_len ?z_int ?z_min ?z_max ?z_list ?z_sorted ?z_sum ?z_range ?z_enumerate ?z_zip ?z_any ?z_isinstance ?z_bool ?z_reversed ?zz_str ?zz_tuple ?zz_all
    (case r5 => rfl)
    (case r6 => rfl)
    (case a0 => k_is); (case l0 => k_is); (case c0 => k_is); (case k0 => k_is); (case a1 => k_is); (case l1 => k_is); (case c1 => k_is); (case k1 => k_is); (case a2 => k_is); (case l2 => k_is); (case c2 => k_is); (case k2 => k_is); (case a3 => k_is); (case l3 => k_is); (case c3 => k_is); (case k3 => k_is); (case a4 => k_is); (case l4 => k_is); (case c4 => k_is); (case k4 => k_is); (case a5 => k_is); (case l5 => k_is); (case c5 => k_is); (case k5 => k_is); (case v5 => k_is); (case p5 => rfl); (case t5 => rfl); (case n5 => rfl); (case a6 => k_is); (case l6 => k_is); (case c6 => k_is); (case k6 => k_is); (case v6 => k_is); (case p6 => rfl); (case t6 => rfl); (case n6 => rfl); (case a7 => k_is); (case l7 => k_is); (case c7 => k_is); (case k7 => k_is); (case a8 => k_is); (case l8 => k_is); (case c8 => k_is); (case k8 => k_is); (case a9 => k_is); (case l9 => k_is); (case c9 => k_is); (case k9 => k_is); (case a10 => k_is); (case l10 => k_is); (case c10 => k_is); (case k10 => k_is); (case a11 => k_is); (case l11 => k_is); (case c11 => k_is); (case k11 => k_is); (case a12 => k_is); (case l12 => k_is); (case c12 => k_is); (case k12 => k_is); (case a13 => k_is); (case l13 => k_is); (case c13 => k_is); (case k13 => k_is); (case z_len => k_is); (case z_int => k_is); (case z_min => k_is); (case z_max => k_is); (case z_list => k_is); (case z_sorted => k_is); (case z_sum => k_is); (case z_range => k_is); (case z_enumerate => k_is); (case z_zip => k_is); (case z_any => k_is); (case z_isinstance => k_is); (case z_bool => k_is); (case z_reversed => k_is); (case zz_str => k_is); (case zz_tuple => k_is); (case zz_all => k_is)
